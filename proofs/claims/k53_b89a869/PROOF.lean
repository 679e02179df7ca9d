import PyProof.Rows.All
import Wide.All
import OpenK.AllK
import Wide.FinOn
import PySem.Challenge.RW_hamperlot_k53_whole_texts_that_are_no_pa
import HandS.ForMost
import HandS.Exc
import HandS.TryOnly
import HandS.ExcInit
import HandS.ExcField
import HandS.WordsExc
import HandS.Lambda
import HandS.EndTab
import HandS.IsInst
import HandS.TupMul
import HandS.TupAny
import HandS.Walk
import HandS.Defaults
import KE.KTupSum
import KE.DatumOrd
import KE.GoesEnum
import HandS.TryMany
import HandS.Wide
import HandS.Zip
import HandS.RaiseMore
import KE.KCallOwn
import HandS.Text
import HandS.StrMore
import HandS.Codes
import KE.GoesComp
import KE.GoesRaise
import HandS.Comp
import HandS.Star
import HandS.CallLocal
import HandS.ExcCtx
import HandS.Hot
import HandS.HotCalls
import HandS.SuiteRaise
import HandS.RaiseFrom
import HandS.ExcInitHot
import KE.KTryMore
import HandS.Deep
import HandS.CallSlots
import HandS.Dict
import HandS.Iter
import HandS.Small
import HandS.More
import HandS.FStr
import HandS.Style
import KE.KNestM
import HandS.MakeKwOnly
set_option Elab.async false
set_option linter.all false
set_option maxRecDepth 100000
set_option maxHeartbeats 4000000
/-! Rules of one's own beside the layer's: sum, max, min of a tuple of ints; enumerate of a tuple; a tuple times 1. -/
namespace HL
open PySem PySem.Spec PyProof.Rows L2
section
variable {X : Cx}
theorem tupI {pins : List (Addr × Obj)} {σ : L2.St} {H : Hp} {s : Shared} {a : Addr} {ns : List Int} (I : Inv X pins σ H s) (h : SqT X.K H a (ns.map V.int)) :
    ∃ its : List Value, IntsAre its ns ∧ s.heap.IsTuple a its.toArray := by
  obtain ⟨its, rv, ⟨o, ho, hc, n, hd⟩, _⟩ := I.tuple h
  exact ⟨its, rv.ints, o, ho, hc, n, hd⟩
/-- sum(t) -/
def rSumT (K : PySem.W.Frag) : List V → Hp → VK → Prop := fun vs H Q =>
  ∃ (a : Addr) (ns : List Int), vs = [V.ref a] ∧ SqT K H a (ns.map V.int) ∧ Q (.int ns.sum) H
theorem cr_sumT (hc : X.calm = true) : CallR X (.builtin "sum") (rSumT X.K) := by
  intro pins s σ H vs us Q I r h
  obtain ⟨a, ns, rfl, hs, q⟩ := h
  obtain ⟨its, hi, hl⟩ := tupI I hs
  rw [Vals.ref1 r]
  obtain ⟨xs, e⟩ := hi.allInts.items
  have hn : numsOf (intItems xs).toList = ns := by
    rw [← e]
    exact hi.numsOf
  rw [nums_intItems] at hn
  rw [e] at hl
  refine PySem.W.ktm_sumG (I.ok.hd hc) hl fun h' tk t' hk => ?_
  rw [preSum_eq]
  rw [List.take_of_length_le (by simp), hn]
  exact ⟨.int _, H, I.kept hk, ⟨_, rfl⟩, q⟩
theorem maxOf_le (x : Int) (xs : List Int) : PySem.W.maxOf x xs ∈ x :: xs ∧ ∀ y ∈ x :: xs, y ≤ PySem.W.maxOf x xs := by
  induction xs generalizing x with
  | nil => exact ⟨List.mem_cons_self, fun y hy => by simp at hy; subst hy; exact Int.le_refl _⟩
  | cons z zs ih =>
    have e : PySem.W.maxOf x (z :: zs) = PySem.W.maxOf (if PySem.W.DatumOrd.lt x z = true then z else x) zs := rfl
    have d : (PySem.W.DatumOrd.lt x z = true) ↔ x < z := by
      show decide (x < z) = true ↔ x < z
      exact decide_eq_true_iff
    rw [e]
    by_cases c : x < z
    · rw [if_pos (d.mpr c)]
      obtain ⟨h1, h2⟩ := ih z
      refine ⟨List.mem_cons_of_mem _ h1, fun y hy => ?_⟩
      rcases List.mem_cons.mp hy with r | r
      · have := h2 z List.mem_cons_self
        omega
      · exact h2 y r
    · rw [if_neg (fun q => c (d.mp q))]
      obtain ⟨h1, h2⟩ := ih x
      refine ⟨?_, fun y hy => ?_⟩
      · rcases List.mem_cons.mp h1 with r | r
        · rw [r]; exact List.mem_cons_self
        · exact List.mem_cons_of_mem _ (List.mem_cons_of_mem _ r)
      · rcases List.mem_cons.mp hy with r | r
        · have := h2 x List.mem_cons_self
          omega
        · rcases List.mem_cons.mp r with r | r
          · have := h2 x List.mem_cons_self
            omega
          · exact h2 y (List.mem_cons_of_mem _ r)
theorem minOf_le (x : Int) (xs : List Int) : PySem.W.minOf x xs ∈ x :: xs ∧ ∀ y ∈ x :: xs, PySem.W.minOf x xs ≤ y := by
  induction xs generalizing x with
  | nil => exact ⟨List.mem_cons_self, fun y hy => by simp at hy; subst hy; exact Int.le_refl _⟩
  | cons z zs ih =>
    have e : PySem.W.minOf x (z :: zs) = PySem.W.minOf (if PySem.W.DatumOrd.lt z x = true then z else x) zs := rfl
    have d : (PySem.W.DatumOrd.lt z x = true) ↔ z < x := by
      show decide (z < x) = true ↔ z < x
      exact decide_eq_true_iff
    rw [e]
    by_cases c : z < x
    · rw [if_pos (d.mpr c)]
      obtain ⟨h1, h2⟩ := ih z
      refine ⟨List.mem_cons_of_mem _ h1, fun y hy => ?_⟩
      rcases List.mem_cons.mp hy with r | r
      · have := h2 z List.mem_cons_self
        omega
      · exact h2 y r
    · rw [if_neg (fun q => c (d.mp q))]
      obtain ⟨h1, h2⟩ := ih x
      refine ⟨?_, fun y hy => ?_⟩
      · rcases List.mem_cons.mp h1 with r | r
        · rw [r]; exact List.mem_cons_self
        · exact List.mem_cons_of_mem _ (List.mem_cons_of_mem _ r)
      · rcases List.mem_cons.mp hy with r | r
        · have := h2 x List.mem_cons_self
          omega
        · rcases List.mem_cons.mp r with r | r
          · have := h2 x List.mem_cons_self
            omega
          · exact h2 y (List.mem_cons_of_mem _ r)
/-- max(t), min(t) of ints -/
def rMaxT (K : PySem.W.Frag) : List V → Hp → VK → Prop := fun vs H Q =>
  ∃ (a : Addr) (ns : List Int), vs = [V.ref a] ∧ SqT K H a (ns.map V.int) ∧ 0 < ns.length ∧ ∀ m, m ∈ ns → (∀ y ∈ ns, y ≤ m) → Q (.int m) H
def rMinT (K : PySem.W.Frag) : List V → Hp → VK → Prop := fun vs H Q =>
  ∃ (a : Addr) (ns : List Int), vs = [V.ref a] ∧ SqT K H a (ns.map V.int) ∧ 0 < ns.length ∧ ∀ m, m ∈ ns → (∀ y ∈ ns, m ≤ y) → Q (.int m) H
theorem int_of_holds {h : Heap} {v : Value} {x : Int} (H : PySem.W.Holds h v x) : ∃ t, v = Value.int x t := by
  have z := PySem.W.HoldAll.toInts (PySem.W.HoldAll.cons H PySem.W.HoldAll.nil)
  cases z with
  | cons n t z => exact ⟨t, rfl⟩
theorem cr_maxT (hc : X.calm = true) (hu : X.A.units + 64 < cLine) : CallR X (.builtin "max") (rMaxT X.K) := by
  intro pins s σ H vs us Q I r h
  obtain ⟨a, ns, rfl, hs, hne, q⟩ := h
  obtain ⟨its, hi, hl⟩ := tupI I hs
  rw [Vals.ref1 r]
  cases ns with
  | nil => simp at hne
  | cons x xs =>
    refine PySem.W.max_tuple_datum (x := x) (xs := xs) (I.ok.hd hc) hl (PySem.W.HoldAll.of_ints (by simpa using hi)) (by show X.A.units + 1 + 0 < cLine; omega) fun i v h' tk _ hv hk => ?_
    obtain ⟨t, rfl⟩ := int_of_holds hv
    obtain ⟨h1, h2⟩ := maxOf_le x xs
    exact ⟨.int _, H, I.kept hk, ⟨_, rfl⟩, q _ h1 h2⟩
theorem cr_minT (hc : X.calm = true) (hu : X.A.units + 64 < cLine) : CallR X (.builtin "min") (rMinT X.K) := by
  intro pins s σ H vs us Q I r h
  obtain ⟨a, ns, rfl, hs, hne, q⟩ := h
  obtain ⟨its, hi, hl⟩ := tupI I hs
  rw [Vals.ref1 r]
  cases ns with
  | nil => simp at hne
  | cons x xs =>
    refine PySem.W.min_tuple_datum (x := x) (xs := xs) (I.ok.hd hc) hl (PySem.W.HoldAll.of_ints (by simpa using hi)) (by show X.A.units + 1 + 0 < cLine; omega) fun i v h' tk _ hv hk => ?_
    obtain ⟨t, rfl⟩ := int_of_holds hv
    obtain ⟨h1, h2⟩ := minOf_le x xs
    exact ⟨.int _, H, I.kept hk, ⟨_, rfl⟩, q _ h1 h2⟩
end
end HL

namespace HL
open PySem PySem.Spec PyProof.Rows L2
open AutoSeq1 (wpAny_loadPart')
/-! enumerate(t), t a tuple -/
abbrev oIt (t : Addr) : Obj := { cls := .type "tuple_iterator", data := .fields #[.ref t, .int 0 0] }
abbrev oEn (i : Addr) : Obj := { cls := .type "enumerate", data := .fields #[.none, .bool false, .ref i, rawInt 0, .none, .none] }
theorem meets_enumT (t : Addr) (items : Array Value) (o : Obj) (tyE : ∀ h : Heap, h.get? t = some o → h.IsTuple t items) :
    Meets (Builtin.«enumerate.__new__» ⟨[.type "enumerate", .ref t], []⟩)
      (fun _ R s => s.heap.get? t = some o ∧ R (.ok (.ret (.ref (s.heap.push (oIt t)).objs.size))) { s with heap := (s.heap.push (oIt t)).push (oEn s.heap.objs.size) }) :=
  .of_wp fun prog w A R s h => by
    obtain ⟨hp, g, d, tk, os⟩ := s
    obtain ⟨hl, h⟩ := h
    have hsub := sub_enumerate
    have hL : Heap.IsTuple (Shared.heap ⟨hp, g, d, tk, os⟩) t items := tyE _ hl
    wp_walk using wpAny_loadPart' hl
    refine wpAny_stack_any fun stk => wpAny_pure ?_
    split
    · rename_i c _ _ _ _ _
      cases (c == Value.type "enumerate") <;> (wp_walk using wpAny_loadPart' hl, wpAny_pyIter_tuple hL; exact ⟨_, rfl, h⟩)
    · wp_walk using wpAny_loadPart' hl, wpAny_pyIter_tuple hL
      exact ⟨_, rfl, h⟩
theorem call_enumT {prog : Program} {w : World} {A : Around} {E : Value → Shared → Prop} {s : Shared} {t : Addr} {items : Array Value} {Q : Value → Shared → Prop} (hL : s.heap.IsTuple t items)
    (h : ∀ h', IsEnum h' (s.heap.objs.size + 1) s.heap.objs.size 0 .none → h'.IsTupleIter s.heap.objs.size t 0 →
      (∀ b o, s.heap.get? b = some o → h'.get? b = some o) → Q (.ref (s.heap.objs.size + 1)) { s with heap := h' }) :
    wpAny (model prog w) A (call (.type "enumerate") [.ref t]) Q E s := by
  obtain ⟨o, hl, hc, n, hd⟩ := hL
  refine callType_new F.called_enumerate (by decide) (F.typeCall_enumerate_1 _) (F.newCall_enumerate_1 _) (fun obj => F.args_object_init_2 obj _) F.entry_enumerate_new
    (meets_enumT t items o fun h' e => ⟨o, e, hc, n, hd⟩) ⟨hl, ?_⟩
  have hz : (s.heap.push (oIt t)).objs.size = s.heap.objs.size + 1 := Heap.size_push ..
  show _ ∧ _
  rw [hz]
  have hen : IsEnum ((s.heap.push (oIt t)).push (oEn s.heap.objs.size)) (s.heap.objs.size + 1) s.heap.objs.size 0 .none := by
    have q := Heap.get?_push_size (s.heap.push (oIt t)) (o := oEn s.heap.objs.size) rfl
    rw [hz] at q
    exact q
  exact ⟨⟨_, hen, rfl⟩, h _ hen ⟨_, Heap.get?_push_of_some _ (Heap.get?_push_size _ rfl), rfl, rfl⟩ fun b o x => Heap.get?_push_of_some _ (Heap.get?_push_of_some _ x)⟩
theorem enum_endT {prog : Program} {w : World} {A : Around} {E : Value → Shared → Prop} {s : Shared} {e it t : Addr} {i : Nat} {items : Array Value} {old : Value} {Q : Option Value → Shared → Prop}
    (hh : A.handled = none) (hen : IsEnum s.heap e it i old) (hit : s.heap.IsTupleIter it t i) (hl : s.heap.IsTuple t items) (hx : items[i]? = none)
    (wish : ∀ h', Heap.ExtBut it s.heap h' → Q none { s with heap := h' }) : wpAny (model prog w) A (pyNext (.ref e)) Q E s := by
  have tyE : s.TypeIs (.ref e) "enumerate" := ⟨_, hen, rfl⟩
  unfold pyNext
  refine wpAny_bind (wpAny_attempt (wpAny_callSpecial?_slot (name := Str.ofString "__next__") tyE F.slot_enumerate_next (wpAny_call_entry F.slot_enumerate_next tyE F.entry_enumerate_next ?_ (F.args_enumerate_next_1 _))))
  show wpAny _ _ (field (.ref e) 2 >>= _) _ _ _
  refine wpAny_bind (wpAny_field hen rfl (x := .ref it) rfl (wpAny_bind (wpAny_nextOf_tuple_end hh hit hl hx fun h' x hen' hx' => ?_)))
  obtain ⟨o, ho, hc⟩ := hx'
  exact wpAny_bind (wpAny_isInstance (T := "StopIteration") (b := true) ⟨o, ho, hc⟩ isSubtype_stop (wpAny_pure (wish _ hen')))
/-- the tuple at a, each item in a new pair -/
def IteT (K : PySem.W.Frag) (a : Addr) : It where
  go := fun i H => ∃ (xs : List V) (x : V), SqT K H a xs ∧ xs[i]? = some x
  yld := fun i H v H' => ∃ T x, v = .ref T ∧ H T = none ∧ H' = upd H T (.tup [.int (i : Nat), x]) ∧ ∀ xs, SqT K H a xs → xs[i]? = some x
  stop := fun i H => ∃ xs : List V, SqT K H a xs ∧ xs.length ≤ i
theorem turn_enumT {P : Program} {w : World} {K : PySem.W.Frag} {elts : List Expr} {kk : Nat} {tpos : Pos} (a e it : Addr) (hai : a ≠ it) :
    Turn P w K (.Tuple elts kk tpos) (IteT K a) [e, it] e (fun i h => (∃ old, IsEnum h e it ((i : Nat) : Int) old) ∧ h.IsTupleIter it a i ∧ e ≠ it ∧ e ≠ a) where
  mem := by simp
  obj := fun i h sta b hb => by
    obtain ⟨⟨old, hen⟩, ⟨o, ho, hc, hd⟩, _⟩ := sta
    have e' : b = e ∨ b = it := by simpa using hb
    rcases e' with z | z
    · rw [z]
      exact ⟨_, hen, fun v q => nomatch q⟩
    · rw [z]
      exact ⟨o, ho, fun v q => by rw [hd] at q; cases q⟩
  keep := fun i h h' sta k => by
    obtain ⟨⟨old, hen⟩, hi, hne⟩ := sta
    exact ⟨⟨old, k e (by simp) _ hen⟩, hi.at fun o q => k it (by simp) o q, hne⟩
  item := by
    intro X hP hw hK hc i pins s σ H E I fpk sta hg
    subst hP hw hK
    obtain ⟨⟨old, hen⟩, hit, hne, hea⟩ := sta
    obtain ⟨xs, x, hq, hx⟩ := hg
    obtain ⟨its, rv, ⟨ot, hot, hct, nt, hdt⟩, hz⟩ := I.tuple hq
    have tyE : s.heap.IsTuple a its.toArray := ⟨ot, hot, hct, nt, hdt⟩
    obtain ⟨u, hu, ru⟩ := rv.get hx
    have hlt : i < its.toArray.size := by
      have := (List.getElem?_eq_some_iff.mp hu).1
      simpa using this
    have elt : e < s.heap.objs.size := Heap.lt_size hen
    have hil : it < s.heap.objs.size := by
      obtain ⟨_, q, _⟩ := hit
      exact Heap.lt_size q
    refine wpAny_pyNext_enum_itemD (Draws.tuple (A := X.A.in1) (I.ok.hd hc) it a hai its.toArray) hen ⟨hit, tyE⟩ hlt hne (by simp [hne, hea]) fun z h' tk hz' ho hit' hTn hsz kep => ?_
    have ez : z = u := by
      have q : its[i]? = some z := by simpa using hz'
      rw [hu] at q
      exact (Option.some.inj q).symm
    subst ez
    refine ⟨_, rfl, wpAny_letOwnedTupleGo_enum (s := { s with heap := h', toks := tk + 1 }) ho fun h'' hen' smb => ?_⟩
    have hT2 : h''.get? s.heap.objs.size = some { cls := .type "tuple", data := .seq #[.int i tk, z] } := (smb.2 _ (Nat.ne_of_gt elt)).trans hTn
    have new : ObjOk X.prog X.w (upd H s.heap.objs.size (.tup [.int (i : Nat), x])) h'' s.heap.objs.size (.tup [.int (i : Nat), x]) :=
      ⟨by show 2 ≤ sizeLine; decide, [.int i tk, z], .cons ⟨_, rfl⟩ (.cons ru .nil), ⟨_, hT2, rfl, _, rfl⟩⟩
    have I1 : Inv X pins σ (upd H s.heap.objs.size (.tup [.int (i : Nat), x])) { s with heap := h'', toks := tk + 1 } :=
      I.turnedNew (ch := [e, it]) (fun b ob hb q => (smb.2 b (fun z => hb (by simp [z]))).trans (kep b ob (fun z => hb (by simp [z])) (fun z => hb (by simp [z])) q)) fpk (Nat.le_refl _) new
    refine ⟨.ref s.heap.objs.size, _, I1, rfl, ⟨_, x, rfl, I.hok.fresh (Nat.le_refl _), rfl, fun ys hy => ?_⟩, ⟨⟨z, ?_⟩, hit'.1.at fun o q => (smb.2 it (Ne.symm hne)).trans q, hne, hea⟩, fun b hb => ?_⟩
    · rw [I.tuple_inj hy hq]
      exact hx
    · have eqi : ((i + 1 : Nat) : Int) = (i : Int) + 1 := by omega
      rw [eqi]
      exact hen'
    · have hb' : b < s.heap.objs.size := by
        have e' : b = e ∨ b = it := by simpa using hb
        rcases e' with z | z
        · rw [z]
          exact elt
        · rw [z]
          exact hil
      rw [upd_ne (Nat.ne_of_lt hb')]
      exact (fpk b hb).1
  done := by
    intro X hP hw hK hc i pins s σ H E I fpk sta hg
    subst hP hw hK
    obtain ⟨⟨old, hen⟩, hit, hne, hea⟩ := sta
    obtain ⟨xs, hq, hx⟩ := hg
    obtain ⟨its, rv, ⟨ot, hot, hct, nt, hdt⟩, hz⟩ := I.tuple hq
    obtain ⟨p0, p1, p2, p3, p4, p5⟩ := fpk it (by simp)
    have hl := rv.length
    refine enum_endT (I.ok.hd hc) hen hit ⟨ot, hot, hct, nt, hdt⟩ (by simp; omega) fun h' eb => ⟨rfl, I.turned (t' := s.toks) (fun b o hb q => eb b o hb q) p0 p1 p3 p4 p5⟩
  self := fun A i s Q E sta h => let ⟨⟨_, hen⟩, _⟩ := sta; wpAny_pyIter_enum hen h
def iEnumT (K : PySem.W.Frag) (ta : TA) : TI := fun σ H R => ta σ H fun vs H1 => ∃ a xs, vs = [.ref a] ∧ SqT K H1 a xs ∧ R (IteT K a) H1
theorem pi_enumT {X : Cx} {e : Expr} {ta : TA} {p pos tpos : Pos} {elts : List Expr} {kk : Nat} (hg : Gl X "enumerate") (hm : X.mg "enumerate" = none) (ha : PA X [e] ta)
    (hs : starEach [e] X.env = [(false, eval e X.env)] := by rfl) : PI X (.Tuple elts kk tpos) (.Call (.Name "enumerate" p) [e] [] pos) (iEnumT X.K ta) := by
  refine ⟨fun pins s σ H R I h => ?_⟩
  refine Call_ (ld_blt I hg hm boot_enumerate (PyProof.Rows.callWith_type1 (thn (ha.run pos pins s σ H _ I h) fun us sA ⟨vs, H1, I1, r1, q1⟩ => ?_) hs rfl))
  obtain ⟨a, xs, ex, hq, q⟩ := q1
  subst ex
  rw [Vals.ref1 r1]
  obtain ⟨its, rv, ⟨ot, hot, hct, nt, hdt⟩, hz⟩ := I1.tuple hq
  have hla : a < sA.heap.objs.size := Heap.lt_size hot
  refine call_enumT (items := its.toArray) ⟨ot, hot, hct, nt, hdt⟩ fun h' hen hit kep => wpAny_pyIter_enum hen ?_
  have JB : Inv X pins σ H1 { sA with heap := h' } := I1.kept (t' := sA.toks) kep
  refine ⟨sA.heap.objs.size + 1, [sA.heap.objs.size + 1, sA.heap.objs.size], _, _, H1, rfl, JB, turn_enumT a (sA.heap.objs.size + 1) sA.heap.objs.size (Nat.ne_of_lt hla),
    ⟨⟨.none, hen⟩, hit, Nat.succ_ne_self _, Nat.ne_of_gt (Nat.lt_succ_of_lt hla)⟩, fun b hb => ?_, q⟩
  have e' : b = sA.heap.objs.size + 1 ∨ b = sA.heap.objs.size := by simpa using hb
  have hle : sA.heap.objs.size ≤ b := by
    rcases e' with z | z
    · rw [z]
      exact Nat.le_add_right _ _
    · rw [z]
      exact Nat.le_refl _
  exact I1.fpOk hle (I1.hok.fresh hle)
end HL

namespace HL
open PySem PySem.Spec PyProof.Rows L2
open AutoSeq1 (wpAny_loadPart')
/-! t * k, k from 1 on: once is the tuple itself -/
theorem tuple_mul1 (l : Addr) (items : Array Value) (n : Nat) (dd : Option Addr) (sl : Array (Option Value)) (u : Tok) :
    Meets (Builtin.«tuple.__mul__» ⟨[.ref l, .int 1 u], []⟩)
      (fun _ R s => s.heap.get? l = some { cls := .type "tuple", dict := dd, data := .seq items n, slots := sl } ∧ R (.ok (.ret (.ref l))) s) :=
  .of_wp fun prog w A R s h => by
    obtain ⟨hp, g, d, tk, os⟩ := s
    obtain ⟨hl, h⟩ := h
    have f1 := AutoSeq1.idx_int
    have ht : Shared.TypeIs ⟨hp, g, d, tk, os⟩ (.ref l) "tuple" := ⟨_, hl, rfl⟩
    wp_walk using wpAny_loadPart' hl
    repeat (first
      | (refine wpAny_ite_false (by decide) ?_; wp_walk using wpAny_loadPart' hl)
      | (refine wpAny_ite_true (by cases items.isEmpty <;> decide) ?_; wp_walk using wpAny_loadPart' hl)
      | (refine wpAny_typeOf ht ?_; wp_walk using wpAny_loadPart' hl)
      | (refine wpAny_bind (wpAny_typeOf ht ?_); wp_walk using wpAny_loadPart' hl))
    exact ⟨_, rfl, h⟩
def rRepA (K : PySem.W.Frag) : R2 := fun x y H Q => ∃ l k xs, x = .ref l ∧ y = .int k ∧ SqT K H l xs ∧ xs ≠ [] ∧ 1 ≤ k ∧ k ≤ 1000 ∧ xs.length ≤ 1000 ∧
  (k = 1 → Q (.ref l) H) ∧ (k ≠ 1 → ∀ p, H p = none → Q (.ref p) (upd H p (.tup (List.replicate k.toNat xs).flatten)))
theorem op_repA {X : Cx} : OpR X (binaryOp .Mult) (rRepA X.K) := by
  intro pins s σ H x y v u Q I rx ry h
  obtain ⟨l, k, xs, rfl, rfl, hT, hne, h1, h2, hz, q1, q2⟩ := h
  by_cases hk : k = 1
  · subst hk
    have rx' := rx
    cases rx
    obtain ⟨t, rfl⟩ := ry
    obtain ⟨its, r, ⟨⟨cl, dd, dat, sl⟩, ho, hc, n, hd⟩, _⟩ := I.tuple hT
    simp only at hc hd
    subst hc hd
    exact wpAny_binaryOp_repeat_ref (T := "tuple") (U := "int") (by decide) ⟨_, ho, rfl⟩ (fun s' => typeIs_int s' 1 t) noFill_tuple_mul F.fills_int_mul F.slot_int_rmul repeat_tuple F.slot_int_index.lookup
      (call_meets F.slot_int_rmul (typeIs_int s 1 t) F.entry_int_rmul (F.args_int_rmul_2 _ _) (int_rmul_tuple 1 t l its.toArray n dd sl)
        ⟨ho, rfl, ⟨_, ho, rfl⟩, call_meets F.slot_tuple_mul ⟨_, ho, rfl⟩ F.entry_tuple_mul (F.args_tuple_mul_2 _ _) (tuple_mul1 l its.toArray n dd sl t) ⟨ho, ⟨.ref l, H, I, rfl, q1 rfl⟩⟩⟩)
  · exact op_repT pins s σ H _ _ v u Q I rx ry ⟨l, k, xs, rfl, rfl, hT, hne, by omega, h2, hz, q2 hk⟩
end HL

namespace HL
open PySem PySem.Spec PyProof.Rows L2
/-! several except clauses, each with a name -/
/-- behind a suite the name's slot is empty -/
abbrev offE (i : Nat) (D : Ends) : Ends := { nx := fun σ' H' => D.nx (σ'.set i none) H', rt := D.rt, bk := fun σ' H' => D.bk (σ'.set i none) H', ct := fun σ' H' => D.ct (σ'.set i none) H' }
def wManyA (K : PySem.W.Frag) (i : Nat) (Wout : WX) (D : Ends) : List (Value × (Addr → Value → Option Addr → TS)) → WX
  | [] => Wout
  | (c, ts) :: r => fun cls d σ H => ∃ b, PySem.W.exmOne K cls c = some b ∧ (b = true → ∀ a, H a = none → ts a cls d (offE i D) (σ.set i (some (.ref a))) H) ∧ (b = false → wManyA K i Wout D r cls d σ H)
inductive HdsA (X : Cx) (n : Str) : List ExceptHandler → List (Value × (Addr → Value → Option Addr → TS)) → Prop
  | nil : HdsA X n [] []
  | cons {x : Str} {c : Value} {ts : Addr → Value → Option Addr → TS} {b₀ : Stmt} {suite : List Stmt} {np pos' : Pos} {hds : List ExceptHandler} {l : List (Value × (Addr → Value → Option Addr → TS))} (hc : Names X x c)
      (hsu : ∀ (a : Addr) (oe : Obj) (cls : Value) (d : Option Addr) (pn : List (Addr × Obj)), Zc cls d oe → (∃ vs, oe.data = .fields vs) → PSs (X.suite a ((a, oe) :: pn)) (b₀ :: suite) (ts a cls d)) (r : HdsA X n hds l) :
      HdsA X n (.ExceptHandler (some (.Name x np)) (some n) (b₀ :: suite) pos' :: hds) ((c, ts) :: l)
section
variable {X : Cx} {n : Str} {i : Nat} {body : List Stmt} {h₀ : ExceptHandler} {hds : List ExceptHandler} {l : List (Value × (Addr → Value → Option Addr → TS))} {pos : Pos} {tb : WX → TS} {Wout : WX}
theorem ps_try_manyA (hs : X.stack = X.env :: X.outer) (hf : X.env.frame = some X.env.locals) (hN : X.N.Nodup) (hi : X.N[i]? = some n) (hln : X.env.kindOf n = some .local) (tk : Takes X Wout)
    (hb : ∀ (W : WX) (pn : List (Addr × Obj)) (xe : Value → Shared → Prop), Takes (X.tr pn xe) W → PassesOwn (model X.prog X.w) X.A X.env xe → PSs (X.tr pn xe) body (tb W)) (hh : HdsA X n (h₀ :: hds) l) :
    PS X (.Try body (h₀ :: hds) [] [] pos) (fun D σ H => tb (wManyA X.K i Wout D l) D σ H) := by
  refine ⟨fun pins s σ H D I hTB => ?_⟩
  have okI := I.ok
  have frA : X.A.frames = some (X.env :: X.outer) := by rw [okI.frames, hs]
  have locN : Loc X.env.scope n := .inl hln
  refine wpAny_Try_except (wpAny_mono ((hb (wManyA X.K i Wout D l) (X.pn ++ pins) (fun e sa => wpAny (model X.prog X.w) X.A (noteFrame e X.env) (fun _ sb => wpAny (model X.prog X.w) X.A (setFlight e none) (fun _ sc =>
    wpAny (model X.prog X.w) X.A (handleBy e X.env (h₀ :: hds)) (SP X pins D) X.xe sc) X.xe sb) X.xe sa) (fun u s' xx => ?_) PassesOwn.looking).run [] s σ H D (I.toTry _) hTB) (fun f sq hsp => ?_) (fun e sq he => he))
  · obtain ⟨a, B, sI, pins', σ', H', cls, d, rfl, J', nb, up, sky, na, os, ag, wsh⟩ := xx
    have J : Inv X pins σ' H' sI := J'.ofTry okI
    have skyE : Sky B (X.env :: X.outer) a (Zc cls d) X.env.locals s'.heap := by rw [← hs]; exact sky
    show wpAny (model X.prog X.w) X.A (noteFrame (.ref a) X.env) _ _ _
    refine Sky.land Zc.steady frA hf skyE fun hC flC upC => ?_
    have JC : Inv X pins σ' H' { s' with heap := hC } := J.landed nb flC.1 (up.trans upC) os ag
    obtain ⟨oC, vC, heC, hzC, hdC⟩ := flC.there
    have notFr : a ∉ frs (X.env :: X.outer) := fun hm => by
      obtain ⟨_, o', e', hnf⟩ := flC.2.2.1.mem hm
      rw [heC] at e'
      cases e'
      exact hnf _ hdC
    have nL : a ≠ X.env.locals := fun z => notFr (List.mem_filterMap.mpr ⟨X.env, List.mem_cons_self, by rw [hf, z]⟩)
    have nF : a ∉ X.fs := fun hm => by
      obtain ⟨e, he, q⟩ := List.mem_filterMap.mp hm
      exact notFr (List.mem_filterMap.mpr ⟨e, List.mem_cons_of_mem _ he, q⟩)
    have SC := JC.suite heC hdC na nL nF
    have go : ∀ {hd2 : List ExceptHandler} {l2 : List (Value × (Addr → Value → Option Addr → TS))}, HdsA X n hd2 l2 → wManyA X.K i Wout D l2 cls d σ' H' → wpAny (model X.prog X.w) X.A (handleBy (.ref a) X.env hd2) (SP X pins D) X.xe { s' with heap := hC } := by
      intro hd2 l2 hk
      induction hk with
      | nil =>
        intro wn
        refine wpAny_handleBy_nil ?_
        obtain ⟨k1, k2, k3, oe, vs, T, oT, ts', he, hz, hd, h1, hr⟩ := id flC
        unfold PySem.passOn
        refine wpAny_bind (wpAny_field he hd h1 ?_)
        rw [if_neg (show ¬ ((Value.ref T == Value.none) = true) from by simp)]
        have fin : wpAny (model X.prog X.w) X.A (setFlight (.ref a) X.env.frame) (fun _ sd => wpAny (model X.prog X.w) X.A (throw (.ref a) : Sem Flow) (SP X pins D) X.xe sd) X.xe { s' with heap := hC } := by
          rw [hf]
          refine HandSPX.setFlight_upZ flC fun hD hhD upD => wpAny_throw (tk _ _ ?_)
          exact ⟨a, B, sI, pins, σ', H', cls, d, rfl, J, nb, (up.trans upC).trans upD, .inr (.inr (by rw [hs]; exact hhD)), na, os, ag, wn⟩
        first
          | exact wpAny_bind (wpAny_pure (wpAny_bind fin))
          | exact wpAny_bind fin
      | @cons x c ts b₀ suite np pos' hd3 l3 hc hsu r ih =>
        intro wn
        obtain ⟨b, hb1, hyes, hno⟩ := wn
        refine wpAny_handleBy_cons (codeAny_handlers_test ?_) (by intro q; cases q)
        have LT : PySem.W.Looks (model X.prog X.w) hC (typeOf (.ref a)) cls := fun A Q E s k q => wpAny_typeOf_ref (k _ _ heC) (by rw [hzC.1]; exact q)
        have LM := PySem.W.exm_one (M := model X.prog X.w) (JC.kIn) LT hb1
        have look : ∀ {Q : Value → Shared → Prop} {E : Value → Shared → Prop}, Q c { s' with heap := hC } → wpAny (model X.prog X.w) (X.A.mark (some (.ref a))) (eval (.Name x np) X.env) Q E { s' with heap := hC } := fun {Q E} q => by
          obtain ⟨hg, hdbg, hm | ⟨hm, hv, hnn⟩⟩ := hc
          · exact ld_glob (X := X.suite a ((a, oC) :: (X.pn ++ pins))) SC hg hm q hdbg
          · exact ld_blt (X := X.suite a ((a, oC) :: (X.pn ++ pins))) SC hg hm hv q hnn hdbg
        refine look (LM.here ?_)
        cases b with
        | false =>
          show wpAny _ X.A (handleBy (.ref a) X.env hd3) _ _ _
          exact ih (hno rfl)
        | true =>
          refine codeAny_handlers_suite_as (HandSPX.lands_againZ flC fun hD flD upD => ?_)
          have JD : Inv X pins σ' H' { s' with heap := hD } := J.landed nb flD.1 ((up.trans upC).trans upD) os ag
          obtain ⟨oD, vD, heD, hzD, hdD⟩ := flD.there
          have SD := JD.suite heD hdD na nL nF
          refine store_ok (X := X.suite a ((a, oD) :: (X.pn ++ pins))) (v := .ref a) SD hN hi locN rfl (fun sE SE => ?_) (.inr hln)
          refine wpAny_mono ((hsu a oD cls d (X.pn ++ pins) hzD ⟨_, hdD⟩).run [] sE _ H' _ SE (hyes rfl a na)) (fun f sG hsp => ?_) (fun _ _ z => False.elim z)
          have off : ∀ {σG : L2.St} {HG : Hp} {Q : Shared → Prop}, Inv (X.suite a ((a, oD) :: (X.pn ++ pins))) [] σG HG sG → (∀ sH, Inv X pins (σG.set i none) HG sH → Q sH) →
              wpAny (model X.prog X.w) X.A (do bindName X.env n .none; unbindBehindTheSuite X.env n pos') (fun _ sH => Q sH) X.xe sG := fun {σG HG Q} SG hq => gone_ok (SG.unsuite okI) hN hi hln hq
          cases f with
          | ret u =>
            obtain ⟨vG, σG, HG, SG, rG, qG⟩ := hsp
            exact off SG fun sH JH => ⟨_, _, _, JH, rG, qG⟩
          | next =>
            obtain ⟨σG, HG, SG, qG⟩ := hsp
            exact off SG fun sH JH => ⟨_, _, JH, qG⟩
          | brk =>
            obtain ⟨σG, HG, SG, qG⟩ := hsp
            exact off SG fun sH JH => ⟨_, _, JH, qG⟩
          | cont =>
            obtain ⟨σG, HG, SG, qG⟩ := hsp
            exact off SG fun sH JH => ⟨_, _, JH, qG⟩
    exact go hh wsh
  · cases f with
    | ret u =>
      obtain ⟨v, σ', H', J', r, q⟩ := hsp
      exact ⟨v, σ', H', J'.ofTry okI, r, q⟩
    | next =>
      obtain ⟨σ', H', J', q⟩ := hsp
      exact wpAny_execs_nil ⟨σ', H', J'.ofTry okI, q⟩
    | brk =>
      obtain ⟨σ', H', J', q⟩ := hsp
      exact ⟨σ', H', J'.ofTry okI, q⟩
    | cont =>
      obtain ⟨σ', H', J', q⟩ := hsp
      exact ⟨σ', H', J'.ofTry okI, q⟩
end
end HL

namespace HL
open PySem PySem.Spec PyProof.Rows L2
open LamX (CodeO Tabs TabB ExtN LamS lamEnv lamCx lam_start2 lam_make2 run_ofS tLam)
/-! what a def got is asked, its own slots known where that raises -/
/-- the asking def's context, entered at s -/
abbrev gCx (X : Cx) (Ng : List Str) (q : Str) (sg : Scope) (g : Addr) (cd : Value) (s : Shared) (H : Hp) : Cx := cxOf C8.CX0 X.prog X.w X.K X.mg X.base Ng q sg g cd X.A X.stack s H C8.E0
/-- the lambda that was made -/
abbrev lamO (X : Cx) (ps : Arguments) (b : Expr) (sc : Scope) (pm : Value) (c' : Addr) (ct : Value) : Obj := PySem.W.kla_obj "<lambda>" (X.env.qual ++ "<lambda>") ps b sc (cloFrom X.env.cells sc.names []) pm c' ct
theorem act_at {X : Cx} {pins : List (Addr × Obj)} {σ : L2.St} {H : Hp} {s : Shared} {Ng : List Str} {q : Str} {sg : Scope} {g f c' : Addr} {cd pm ct : Value} {ps : Arguments} {b : Expr} {sc : Scope} {k i : Nat} {a : Str} {pn : List (Addr × Obj)} {xe : Value → Shared → Prop} {W : WX} {E : XK} {tb : TE} {p1 p2 : Pos} {σ0 : L2.St}
    (I : Inv X pins σ H s) (L : LamS X.env.scope sc) (hf : s.heap.get? f = some (lamO X ps b sc pm c' ct)) (hn : H f = none) (hfr : f ∉ frs X.stack)
    (hb : bindArgs (PySem.W.kla_fn "<lambda>" (X.env.qual ++ "<lambda>") ps b sc (cloFrom X.env.cells sc.names []) pm (.ref c') ct) ⟨[], []⟩ = pure [])
    (tk : Takes ((gCx X Ng q sg g cd s H).tr pn xe) W) (hW : ∀ cls d H', E cls d H' → W cls d σ0 H') (hr : Room (k + 1) (X.A.deeper (envOfC q sg s.heap.objs.size g cd)))
    (hbody : ∀ (A : Around) (o : List Env) (s : Shared) (H : Hp), Room k (A.deeper (lamEnv X sc s.heap.objs.size f c')) → PE (lamCx X A o s H E sc f c') b tb)
    (hN : Ng[i]? = some a) (hv : Vis sg a) (d1 : (a == ("__debug__" : Str)) = false) (d2 : (a == ("__classdict__" : Str)) = false) :
    PE ((gCx X Ng q sg g cd s H).tr pn xe) (.Call (.Name a p1) [] [] p2) (fun σZ HZ Q => σZ = σ0 ∧ σZ[i]? = some (some (.ref f)) ∧ HZ c' = some (CodeO c' (X.env.qual ++ "<lambda>")) ∧ tb σ HZ Q) := by
  refine ⟨fun pz sz σz hz Qz J ⟨eσ, h1, h2, h3⟩ => ?_⟩
  have nm := (pe_var (pos := p1) (i := i) hN hv d1 d2).run pz sz σz hz (fun v H1 => v = .ref f ∧ H1 = hz) J ⟨_, h1, rfl, rfl⟩
  refine wpAny_Call_Name_kw (thn nm ?_)
  rintro u s1 ⟨v, H1, J1, r1, ⟨ev, eh⟩⟩
  subst ev
  rw [eh] at J1
  obtain rfl : u = Value.ref f := r1
  have o1 : s1.heap.get? f = some (lamO X ps b sc pm c' ct) := J1.base.keep f _ hf hn hfr (fun y => List.not_mem_nil (show f ∈ ([] : List Addr) from y))
  have go : codeAny (model X.prog X.w) (X.A.deeper (envOfC q sg s.heap.objs.size g cd)) (.call (.ref f) ⟨[], []⟩) (CR (L2.CX X.prog X.w) (envOfC q sg s.heap.objs.size g cd :: X.stack) X.prog X.w hz s1 Qz E) s1 := by
    obtain ⟨⟨oc, vs, t, ho, hd, hc⟩, _, _⟩ := J1.hok c' _ h2
    refine PySem.W.kla_callFunE hr.depth o1 rfl L.co L.gen rfl ⟨c', oc, vs, t, rfl, ho, hd, hc⟩ ?_
    rw [hb]
    refine wpAny_pure (wpAny_newFunctionEnv (fun y hy => (L.own y hy).2) (fun y hy => absurd hy (by simp)) (fun h1' hns hsb => ⟨J1.nolimit.fresh _ hsb, ?_⟩) L.kind)
    show codeAny _ _ (.expr b (lamEnv X sc s1.heap.objs.size f c')) _ _
    have st : Inv (lamCx X (X.A.deeper (envOfC q sg s.heap.objs.size g cd)) (envOfC q sg s.heap.objs.size g cd :: X.stack) s1 hz E sc f c') [] σ hz { s1 with heap := h1', toks := s1.toks + ([] : List (Str × Value)).length } :=
      lam_start2 I L J1.env0 hr.hd J1.base hns (fun b' o' e' => hsb.extBut b' o' (Nat.ne_of_lt (Heap.lt_size e')) (Heap.get?_push_of_some _ e'))
    refine PySem.W.kla_codeExpr (wpAny_mono ((hbody _ _ s1 hz (hr.deeper _)).run [] _ _ hz Qz st h3) ?_ (fun _ _ x => x))
    rintro v' s' ⟨w', H', J', rv, qv⟩
    exact ⟨w', H', J'.os, J'.bare, J'.base, J'.hok, rv, qv⟩
  refine PySem.W.callWith_F0 ⟨_, _, _, _, o1⟩ (wpAny_call (codeAny_mono go ?_))
  intro r s' hq
  cases r with
  | error e =>
    refine tk e s' (XE.of_call J1 (fun cls d H' hE => ?_) hq)
    rw [eσ]
    exact hW cls d H' hE
  | ok fl =>
    cases fl with
    | ret u => exact J1.after hq
    | next => cases hq
    | brk => cases hq
    | cont => cases hq
/-- the def that asks: σ0 its slots where it asks -/
def AsksOf (X : Cx) (Ng : List Str) (x : Str) (sg : Scope) (g : Addr) (cd : Value) (bg : List Stmt) (a : Str) (q : Str) (TT : (XK → Hp → VK → Prop) → Hp → VK → Prop) : Prop :=
  ∀ (f c' : Addr) (s : Shared) (H : Hp) (Q : VK) (tl : XK → Hp → VK → Prop),
    (∀ (σ0 : L2.St) (W : WX) (pn : List (Addr × Obj)) (xe : Value → Shared → Prop) (E : XK) (p1 p2 : Pos), Takes ((gCx X Ng x sg g cd s H).tr pn xe) W → (∀ cls d H', E cls d H' → W cls d σ0 H') →
      PE ((gCx X Ng x sg g cd s H).tr pn xe) (.Call (.Name a p1) [] [] p2) (fun σZ HZ Q => σZ = σ0 ∧ σZ[0]? = some (some (.ref f)) ∧ HZ c' = some (CodeO c' q) ∧ tl E HZ Q)) →
    H c' = some (CodeO c' q) → TT tl H Q → ∃ t, PSs (gCx X Ng x sg g cd s H).nox bg t ∧ t { nx := fun _ H' => Q .non H', rt := Q } (L2.start Ng [.ref f]) H
theorem pe_askcall {X : Cx} {T : List (Addr × Str)} {TT : (XK → Hp → VK → Prop) → Hp → VK → Prop} {x a : Str} {g c P : Addr} {k : Nat} {pg : Arguments} {bg : List Stmt} {sg : Scope} {dV kV doc pm cdv ct oc : Value} {an od : Option Addr} {osl : Array (Option Value)} {Ng : List Str}
    {ps : Arguments} {b : Expr} {sc : Scope} {t : XK → TE} {p lp pos : Pos} (hg : Gl X x) (hm : X.mg x = some (.ref g)) (hk : PySem.W.keepIn X.K (.ref g) = true)
    (lk : X.K.lookup g = some ⟨oc, od, .func (PySem.W.fnOf x x pg bg sg dV kV doc pm an cdv ct), osl⟩) (hcg : PySem.W.codeIn X.K cdv x = true) (hbi : L2.Binds X.K (PySem.W.fnOf x x pg bg sg dV kV doc pm an cdv ct) [a] []) (Sg : FnScope Ng [a] sg) (hN : Ng[0]? = some a) (hv : Vis sg a)
    (hG : AsksOf X Ng x sg g cdv bg a (X.env.qual ++ "<lambda>") TT) (TB : TabB X.base X.mg c P) (hcode : X.env.code = .ref c) (hT : (P, X.env.qual ++ "<lambda>") ∈ T) (hu : ∀ p ∈ T, p.1 = P → p.2 = X.env.qual ++ "<lambda>") (hr : Room (k + 2) X.A) (L : LamS X.env.scope sc) (hdef : defaultsOf ps X.env = ([], []))
    (hb : ∀ (q : Str) (cl : List (Str × Addr)) (pm cv ctv : Value), bindArgs (PySem.W.kla_fn "<lambda>" q ps b sc cl pm cv ctv) ⟨[], []⟩ = pure [])
    (hbody : ∀ (A : Around) (o : List Env) (s : Shared) (H : Hp) (E : XK) (f c' : Addr), Room k (A.deeper (lamEnv X sc s.heap.objs.size f c')) → PE (lamCx X A o s H E sc f c') b (t E))
    (d0 : (x == ("__debug__" : Str)) = false := by decide) (d1 : (a == ("__debug__" : Str)) = false := by decide) (d2 : (a == ("__classdict__" : Str)) = false := by decide) :
    PE X (.Call (.Name x p) [.Lambda ps b sc lp] [] pos) (tLam T TT t) := by
  refine ⟨fun pins s σ H Q I ⟨hTt, h⟩ => wpAny_Call_Name_kw (ld_glob I hg hm (PySem.W.callWith_K (h₀ := X.base) I.ok.mod.kin hk ?_ (by rfl) (by rfl)) d0)⟩
  show wpAny _ _ (spliced ((false, eval (.Lambda ps b sc lp) X.env) :: backTo pos (starEach [] X.env))) _ _ s
  refine Calls.spliced_cons (lam_make2 I TB hcode hT hu hTt hdef (L.has I.ok) fun f c' pm' ctv H1 s' J eN T1 hf hfn hfr hco => Calls.spliced_nil ⟨J.kIn, ?_⟩)
  refine wpAny_call (codeAny_mono (R := CR C8.CX0 X.stack X.prog X.w H1 s' Q C8.E0) (run_ofS (N := Ng) (ps := [a]) (us := [.ref f]) (vs := [.ref f]) lk hcg Sg hr J.env0 (hbi s' [.ref f] J.kIn rfl) (.cons rfl .nil) rfl fun hr' => ?_) fun r s2 hq => ?_)
  · obtain ⟨t', ht, hq⟩ := hG f c' s' H1 Q (fun E H' Q' => t E σ H' Q') (fun σ0 W pn xe E p1 p2 tk hW => act_at (i := 0) J L hf hfn hfr (hb _ _ _ _ _) tk hW hr' (fun A o s H hr2 => hbody A o s H E f c' hr2) hN hv d1 d2) hco (h H1 eN T1)
    exact ⟨t', ht.nox, hq⟩
  · cases r with
    | error e => exact (show False from hq).elim
    | ok fl =>
      cases fl with
      | ret u => exact J.after hq
      | next => cases hq
      | brk => cases hq
      | cont => cases hq
end HL

/-! own exceptions over any built-in base, their __init__ walked as a def; made with any count of arguments -/
namespace HL
open PySem PySem.Spec PyProof.Rows L2
open PySem.Builtin PySem.Builtin.ObjectAttr PySem.HandSPX
section
variable {prog : Program} {w : World} {A : Around} {R : Result → Shared → Prop} {hp : Heap} {g : Array GenState} {d : Drawn} {t : Nat} {os : OsState} {K : PySem.W.Frag} {f : Str} {tk : Tok} {v : Value} {x C : Addr} {fv : Array Value} {cd : ClassData}
/-- what a store on an instance looks up, told of its class alone -/
structure Mro (cd : ClassData) : Prop where
  pass : ∀ self, refuseLoop self "__setattr__" cd.mro = pure ()
  obj : cd.mro.contains (.type "object") = true
  ne : cd.mro.isEmpty = false
  hd : cd.hasDict = true
theorem osaG {o : Obj} {od : Option Obj} (X : K.In hp) (I : PySem.W.InstAt hp x o C od) (hcd : PySem.W.clsIn K C = some cd) (M : Mro cd) (ha : PySem.W.findIn K (.ref C) f = some none)
    (hq : wpAny (model prog w) A.in1 (storeInOwnDict (.ref x) (.ref C) (.str f tk) f v false) (fun r s' => match r with | .done fl => R (.ok fl) s' | .again c' => c'.quiet = true ∧ codeAny (model prog w) A c' R s') (fun e s' => R (.error e) s') ⟨hp, g, d, t, os⟩) :
    codeAny (model prog w) A (.call (.builtin "object.__setattr__") ⟨[.ref x, .str f tk, v], []⟩) R ⟨hp, g, d, t, os⟩ := by
  have SF := F.store_object
  have sub : PySem.W.Looks (model prog w) hp (isInstance (.ref x) (.type "object")) true := I.type.andThen (PySem.W.looks_mroIn X (by unfold PySem.W.mroIn; rw [hcd, Option.bind_some, if_neg (by rw [M.ne]; decide), M.obj]))
  refine codeAny_call_builtin SF.slot.plain SF.entry (@PySem.W.check_slot (model prog w) _ _ ⟨hp, g, d, t, os⟩ "object.__setattr__" "object" "__setattr__" (.ref x) [.str f tk, v] [] _ SF.kind SF.split sub (SF.args (.ref x) (.str f tk) v) ?_)
  have hmr : PySem.W.Looks (model prog w) hp (mroOf (.ref C)) cd.mro := (PySem.W.looks_clsIn X hcd).andThen .now
  have L3 : PySem.W.Looks (model prog w) hp (storeTaker? none) none := .now
  rw [PySem.W.osa_eq, refuse_eq]
  refine wpAny_bind (wpAny_bind (I.type.at (wpAny_bind (hmr.at ?_))))
  rw [M.pass]
  refine wpAny_pure (wpAny_bind (I.type.at (wpAny_bind ((PySem.W.looks_findIn X ha).at (wpAny_bind (L3.at ?_))))))
  exact hq
/-- the first field of an instance -/
theorem store1 (X : K.In hp) (hx : hp.get? x = some { cls := .ref C, data := .fields fv }) (hcd : PySem.W.clsIn K C = some cd) (M : Mro cd) (ha : PySem.W.findIn K (.ref C) f = some none)
    (hq : ∀ h' tk' dx, (∀ b o, b ≠ x → hp.get? b = some o → h'.get? b = some o) → hp.objs.size ≤ dx → dx ≠ x → h'.get? x = some { cls := .ref C, dict := some dx, data := .fields fv } → h'.Ns1 dx (fun y => if y = f then some v else none) → R (.ok (.ret .none)) ⟨h', g, d, tk', os⟩) :
    codeAny (model prog w) A (.call (.builtin "object.__setattr__") ⟨[.ref x, .str f tk, v], []⟩) R ⟨hp, g, d, t, os⟩ := by
  have hxs : x ≠ hp.objs.size := Nat.ne_of_lt (Heap.lt_size hx)
  refine osaG (od := none) X ⟨hx, rfl, rfl, trivial⟩ hcd M ha ?_
  have hc : PySem.W.Looks (model prog w) hp (classData C) cd := PySem.W.looks_clsIn X hcd
  obtain ⟨_, _, _, hdt⟩ := M
  obtain ⟨nm, bs, mro, ns, qn, hd, sn, sb, ab, col, del⟩ := cd
  cases hdt
  unfold storeInOwnDict ownDictForStores
  repeat (first | with_reducible refine store_in_new ?_ ?_ | with_reducible refine wpAny_loadPart_at hx ?_ | with_reducible refine hc.at ?_ | wp_step)
  · have nothing : ∀ e ∈ (#[] : Array DictEntry).toList, False := fun e he => by simp at he
    exact ⟨_, #[], _, (Heap.get?_update_ne _ _ _ _ hxs.symm).trans (Heap.get?_push_at rfl rfl),
      rfl, fun e he => absurd he (by simp), fun _ => rfl⟩
  · intro h' tk' hn' hs
    refine hq h' tk' hp.objs.size ?_ (Nat.le_refl _) hxs.symm ?_ hn'
    · intro b o hb ho
      rw [hs.2 b (Nat.ne_of_lt (Heap.lt_size ho)), Heap.get?_update_ne _ _ _ _ hb]
      exact Heap.get?_push_of_some _ ho
    · rw [hs.2 x hxs]
      exact Heap.get?_update_self _ (Heap.get?_push_of_some _ hx) rfl
/-- a further field -/
theorem store2 {dx : Addr} {m0 : Str → Option Value} {nl : List Str} (X : K.In hp) (hx : hp.get? x = some { cls := .ref C, dict := some dx, data := .fields fv }) (hns : hp.Ns1 dx m0) (hw : Within m0 nl) (hz : nl.length ≤ 1000) (hcd : PySem.W.clsIn K C = some cd) (M : Mro cd) (ha : PySem.W.findIn K (.ref C) f = some none)
    (hq : ∀ h' tk', (∀ b o, b ≠ dx → hp.get? b = some o → h'.get? b = some o) → h'.Ns1 dx (fun y => if y = f then some v else m0 y) → R (.ok (.ret .none)) ⟨h', g, d, tk', os⟩) :
    codeAny (model prog w) A (.call (.builtin "object.__setattr__") ⟨[.ref x, .str f tk, v], []⟩) R ⟨hp, g, d, t, os⟩ := by
  obtain ⟨oD, _, _, hoD, _, _⟩ := hns.count hw
  refine osaG (od := some oD) X ⟨hx, rfl, rfl, hoD⟩ hcd M ha ?_
  have hc : PySem.W.Looks (model prog w) hp (classData C) cd := PySem.W.looks_clsIn X hcd
  obtain ⟨_, _, _, hdt⟩ := M
  obtain ⟨nm, bs, mro, ns, qn, hd, sn, sb, ab, col, del⟩ := cd
  cases hdt
  unfold storeInOwnDict ownDictForStores
  repeat (first | with_reducible refine PySem.OEX.store_in_old hns hw hz ?_ | with_reducible refine wpAny_loadPart_at hx ?_ | with_reducible refine hc.at ?_ | wp_step)
  exact fun h' tk' hn' hs => hq h' tk' (fun b o hb ho => by rw [hs.2 b hb]; exact ho) hn'
end
/-- what the written part says of an own class over a built-in base -/
structure OexB (K : PySem.W.Frag) (C : Addr) (nid : String) (bmB : List Value) : Prop where
  cls : ∃ nm q N bs bm sn sub ab col dd k0 k1 k2 k3 k5, K.lookup C = some (excClassObj nm q C N bs bm true sn sub ab col dd k0 k1 k2 k3 k5 nid) ∧ (∀ X : String, bm.contains (.type X) = bmB.contains (.type X)) ∧ ∀ self, refuseLoop self "__setattr__" (.ref C :: bm) = pure ()
  ob : bmB.contains (.type "object") = true
  sa : PySem.W.findIn K (.ref C) "__setattr__" = some (some (.builtin "object.__setattr__"))
  exC : PySem.W.subIn K (.ref C) (.type "BaseException") = some true
  tyC : PySem.W.typeIn K (.ref C) = some (.type "type")
  kC : PySem.W.keepIn K (.ref C) = true
theorem OexB.mro {K : PySem.W.Frag} {C : Addr} {nid : String} {bmB : List Value} (T : OexB K C nid bmB) : ∃ cd, PySem.W.clsIn K C = some cd ∧ Mro cd := by
  obtain ⟨nm, q, N, bs, bm, sn, sub, ab, col, dd, k0, k1, k2, k3, k5, hC, h1, h2⟩ := T.cls
  refine ⟨{ name := nm, bases := bs, mro := .ref C :: bm, ns := N, qualname := q, hasDict := true, slotNames := sn, subclasses := sub, abstract := ab, collection := col, hasDel := false }, by unfold PySem.W.clsIn; rw [hC] <;> rfl, h2, ?_, rfl, rfl⟩
  show (Value.ref C :: bm).contains (.type "object") = true
  rw [List.contains_cons, h1, T.ob, Bool.or_true]
section
variable {X : Cx} {nid : String} {bmB : List Value} {pins : List (Addr × Obj)} {σ : L2.St} {H : Hp} {s : Shared} {a C dx : Addr} {f : Str} {y : V} {u : Value} {fs : List (Str × V)} {Q : Unit → Shared → Prop} {E : Value → Shared → Prop} {A : Around}
theorem ostN (T : OexB X.K C nid bmB) (I : Inv X pins σ H s) (e : H a = some (exo a C none)) (hno : PySem.W.findIn X.K (.ref C) f = some none) (ry : RelV y u)
    (h : ∀ dx s', H dx = none → dx ≠ a → Inv X pins σ (upd (upd H dx (exd dx [(f, y)])) a (exo a C (some dx))) s' → Q () s') : wpAny (model X.prog X.w) A (setAttr (.ref a) f u) Q E s := by
  obtain ⟨cd, hcl, M⟩ := T.mro
  obtain ⟨t1, ho⟩ := exo_at I.hok e
  obtain ⟨hp, g, d, t, os⟩ := s
  refine PySem.W.set_plain (od := none) I.kIn ⟨ho, rfl, rfl, trivial⟩ T.sa (store1 I.kIn ho hcl M hno fun h' tk' dx k dn dne hx hn => ?_)
  have nH : H dx = none := I.hok.fresh dn
  have old : ∀ {b : Addr} {o : Obj}, hp.get? b = some o → b ≠ dx := fun {b o} q => Nat.ne_of_lt (Nat.lt_of_lt_of_le (Heap.lt_size q) dn)
  have off : ∀ {b : Addr}, H b = none → b ≠ a := fun {b} n z => by rw [z, e] at n; cases n
  have two : ∀ {b : Addr} {o : HO}, H b = some o → exo a C none ≠ o → upd (upd H dx (exd dx [(f, y)])) a (exo a C (some dx)) b = some o := fun {b o} q ne => by
    rw [upd_ne (at_ne e q ne), upd_ne (ne_of_none q nH)]
    exact q
  refine h dx _ nH dne (I.un (t' := tk') { keep := fun b o q n _ _ => k b o (off n) q, slot := fun b o q n _ _ => ⟨o.slots, k b o (off n) q⟩, free := ?fr, there := ?th, tups := fun b xs q => two q exo_tup, frzs := fun b o v q => two q exo_frz, tbls := fun b ps q => ⟨#[], by rw [two q exo_tbl]; simp⟩ } fun b o q => ?ok)
  case fr =>
    intro b o q n _
    rw [upd_ne (off n), upd_ne (old q)]
    exact n
  case th =>
    intro b o q _
    by_cases hb : b = a
    · rw [hb]
      exact ⟨_, hx⟩
    · exact ⟨o, k b o hb q⟩
  case ok =>
    by_cases hb : b = a
    · subst hb
      rw [upd_same] at q
      cases q
      exact exo_ok hx
    rw [upd_ne hb] at q
    by_cases hd : b = dx
    · subst hd
      rw [upd_same] at q
      cases q
      exact exd_ok hn (relO_put (fs := []) ry fun g => True.intro)
    rw [upd_ne hd] at q
    refine (I.hok b o q).stay (fun c v hc z => k c v ?_ z) (fun c hc => two hc exo_own) (fun c xs hc => two hc exo_tup)
    rcases hc with hc | hc
    · rw [hc]; exact hb
    · exact at_ne e hc exo_own
theorem ostO (T : OexB X.K C nid bmB) (I : Inv X pins σ H s) (e : H a = some (exo a C (some dx))) (ed : H dx = some (exd dx fs)) (hl : fs.length ≤ 900) (hno : PySem.W.findIn X.K (.ref C) f = some none) (ry : RelV y u)
    (h : ∀ s', Inv X pins σ (upd H dx (exd dx ((f, y) :: fs))) s' → Q () s') : wpAny (model X.prog X.w) A (setAttr (.ref a) f u) Q E s := by
  obtain ⟨cd, hcl, M⟩ := T.mro
  obtain ⟨t1, ho⟩ := exo_at I.hok e
  obtain ⟨mA, hns, rel⟩ := exd_at I.hok ed
  have hw := within_of rel
  obtain ⟨hp, g, d, t, os⟩ := s
  obtain ⟨oD, _, _, hoD, _, _⟩ := hns.count hw
  refine PySem.W.set_plain (od := some oD) I.kIn ⟨ho, rfl, rfl, hoD⟩ T.sa (store2 I.kIn ho hns hw (by rw [List.length_map]; omega) hcl M hno fun h' tk' k hn => ?_)
  have hd : ∃ o, h'.get? dx = some o := let ⟨o, _, _, e', _⟩ := hn; ⟨o, e'⟩
  exact h _ (I.write (t' := tk') (x := dx) (e := dx) (o := exd dx ((f, y) :: fs)) (by rw [ed]; exact True.intro) (.inl rfl) k hd (exd_ok hn (relO_put ry rel)))
end
/-! ### readings and rules -/
/-- self.f = e -/
def tOstB (K : PySem.W.Frag) (nid : String) (bmB : List Value) (f : Str) (to te : TE) : TS := fun D σ H => te σ H fun y H1 => to σ H1 fun x H2 => ∃ a C : Addr, x = .ref a ∧ OexB K C nid bmB ∧ PySem.W.findIn K (.ref C) f = some none ∧
  ((H2 a = some (exo a C none) ∧ ∀ dx, H2 dx = none → dx ≠ a → D.nx σ (upd (upd H2 dx (exd dx [(f, y)])) a (exo a C (some dx)))) ∨
    ∃ (dx : Addr) (fs : List (Str × V)), H2 a = some (exo a C (some dx)) ∧ H2 dx = some (exd dx fs) ∧ fs.length ≤ 900 ∧ D.nx σ (upd H2 dx (exd dx ((f, y) :: fs))))
section
variable {X : Cx} {nid : String} {bmB : List Value} {o e : Expr} {es : List Expr} {to te : TE} {ta : TA} {f : Str} {p p' pos : Pos}
theorem ps_ostB (ho : PE X o to) (he : PE X e te) (hs : swapsWith e (some (.Attribute o f p')) pos.line X.env = pure false := by rfl) : PS X (.Assign [.Attribute o f p'] e pos) (tOstB X.K nid bmB f to te) := by
  refine ⟨fun pins s σ H D I h => plainObj_wpAny_Assign_Attribute (thn (he.run pins s σ H _ I h) fun v s1 ⟨y, H1, I1, r1, q1⟩ => thn (ho.run pins s1 σ H1 _ I1 q1) ?_) hs⟩
  rintro u s2 ⟨x, H2, I2, r2, a, C, ex, T, hno, q⟩
  subst ex
  obtain rfl : u = Value.ref a := r2
  rcases q with ⟨ea, q⟩ | ⟨dx, fs, ea, ed, hl, q⟩
  · exact ostN T I2 ea hno r1 fun dx s' n ne J => ⟨σ, _, J, q dx n ne⟩
  · exact ostO T I2 ea ed hl hno r1 fun s' J => ⟨σ, _, J, q⟩
/-- the making, the arguments at hand -/
theorem make_at {CX : CXT} {B initId : String} {C fI : Addr} {k : Nat} {fd : FuncData} {ps : List Str} {sp : Sp} (EF : ExcBaseFacts B nid initId bmB) (T : OexB X.K C nid bmB) (iC : PySem.W.findIn X.K (.ref C) "__init__" = some (some (.ref fI))) (tI : PySem.W.typeIn X.K (.ref fI) = some (.type "function"))
    (F1 : FnOk X.prog X.w X.K X.mg X.base CX k fI fd ps sp) (hr : Room (k + 1) X.A) (hb : Binds X.K fd ps []) (hx : Passes CX X (fun _ _ _ => False)) {pins : List (Addr × Obj)} {σ : L2.St} {H1 : Hp} {s1 : Shared} {vs : List V} {us : List Value} {Q : XK} (I1 : Inv X pins σ H1 s1) (r1 : Vals vs us) (hz : vs.length ≤ 1000)
    (q1 : ∀ a, H1 a = none → sp (.ref a :: vs) (upd H1 a (exo a C none)) (fun v H2 => v = .non ∧ ∃ (d : Addr) (fs : List (Str × V)), H2 a = some (exo a C (some d)) ∧ H2 d = some (exd d fs) ∧ H1 d = none ∧ Q (.ref C) (some d) (upd (del H2 a) d (.xd fs))) (fun _ _ _ => False)) :
    wpAny (model X.prog X.w) X.A (call (.ref C) us) (MkP X pins σ Q) X.xe s1 := by
  obtain ⟨nm, q, N, bs, bm, sn, sub, ab, col, dd, k0, k1, k2, k3, k5, hC, h1, h2⟩ := T.cls
  obtain ⟨hp, g, dr, tk, os⟩ := s1
  have le : hp.objs.size ≤ hp.objs.size + 1 := Nat.le_succ _
  have hq := q1 (hp.objs.size + 1) (I1.hok.fresh le)
  have up : ∀ b o, hp.get? b = some o → ((hp.push (PySem.W.kdv_tup us)).push (excO C hp.objs.size)).get? b = some o := fun b o z => Heap.get?_push_of_some _ (Heap.get?_push_of_some _ z)
  have at1 : ((hp.push (PySem.W.kdv_tup us)).push (excO C hp.objs.size)).get? (hp.objs.size + 1) = some (excO C hp.objs.size) := by heap_get
  have I2 : Inv X pins σ (upd H1 (hp.objs.size + 1) (exo (hp.objs.size + 1) C none)) ⟨(hp.push (PySem.W.kdv_tup us)).push (excO C hp.objs.size), g, dr, tk, os⟩ := I1.laid (t' := tk) up le (exo_ok at1)
  have r2 : Vals (V.ref (hp.objs.size + 1) :: vs) (Value.ref (hp.objs.size + 1) :: us) := .cons rfl r1
  have len : (Value.ref (hp.objs.size + 1) :: us ++ []).length = ps.length := by
    rw [List.append_nil, ← r2.length]
    exact F1.len _ _ _ _ hq
  have bi := hb _ (Value.ref (hp.objs.size + 1) :: us) I2.kIn len
  rw [List.append_nil] at bi
  have small : us.length ≤ sizeLine := by
    rw [← Paired.length r1, sizeLine_eq]
    omega
  have run := F1.run _ X.stack _ _ ⟨Value.ref (hp.objs.size + 1) :: us, []⟩ (Value.ref (hp.objs.size + 1) :: us) _ _ (fun _ _ _ => False) (hr.make C us []) (I2.env0.make C us []) bi r2 hq
  refine wpAny_call (call_own EF h1 (I1.kIn _ _ hC) (PySem.W.looks_findIn I1.kIn iC) (fun self => PySem.W.bind_fn I1.kIn self tI) small (codeAny_mono run ?_))
  rintro (er | fl) s' hq'
  · exact hx pins σ _ _ er s' I2 hq'
  · cases fl with
    | ret u =>
      obtain ⟨v, H2, os2, bare2, un2, hok2, rv, ev, d, fs, ea, ed, hd1, q2⟩ := hq'
      subst ev
      exact ⟨rv, mk_end (raises_own T.exC T.tyC) I1 le up un2 hok2 os2 bare2 ea ed hd1 q2⟩
    | next => cases hq'
    | brk => cases hq'
    | cont => cases hq'
def tMkB (C : Addr) (sp : Sp) (ta : TA) : L2.St → Hp → XK → Prop := fun σ H Q => ta σ H fun vs H1 => vs.length ≤ 1000 ∧ ∀ a, H1 a = none → sp (.ref a :: vs) (upd H1 a (exo a C none))
  (fun v H2 => v = .non ∧ ∃ (d : Addr) (fs : List (Str × V)), H2 a = some (exo a C (some d)) ∧ H2 d = some (exd d fs) ∧ H1 d = none ∧ Q (.ref C) (some d) (upd (del H2 a) d (.xd fs))) (fun _ _ _ => False)
theorem pmk_oexB {CX : CXT} {B initId : String} {x : Str} {C fI : Addr} {k : Nat} {fd : FuncData} {ps : List Str} {sp : Sp} (EF : ExcBaseFacts B nid initId bmB) (T : OexB X.K C nid bmB) (iC : PySem.W.findIn X.K (.ref C) "__init__" = some (some (.ref fI))) (tI : PySem.W.typeIn X.K (.ref fI) = some (.type "function"))
    (F1 : FnOk X.prog X.w X.K X.mg X.base CX k fI fd ps sp) (hr : Room (k + 1) X.A) (hb : Binds X.K fd ps []) (hx : Passes CX X (fun _ _ _ => False)) (hg : Gl X x) (hm : X.mg x = some (.ref C)) (ha : PA X (e :: es) ta)
    (hdb : (x == ("__debug__" : Str)) = false := by decide) (he : starEach (e :: es) X.env = (false, eval e X.env) :: starEach es X.env := by rfl) (hpl : (backTo pos (starEach es X.env)).any (·.1) = false := by rfl) :
    PMk X (.Call (.Name x p) (e :: es) [] pos) (tMkB C sp ta) := fun pins s σ H Q I h =>
  wpAny_Call_Name_kw (ld_glob I hg hm (PySem.W.callWith_K (h₀ := X.base) I.ok.mod.kin T.kC (thn (ha.run pos pins s σ H _ I h) fun us s1 ⟨vs, H1, I1, r1, hz, q1⟩ => ⟨I1.kIn, make_at EF T iC tI F1 hr hb hx I1 r1 hz q1⟩) he hpl) hdb)
theorem pmk_oexB0 {CX : CXT} {B initId : String} {x : Str} {C fI : Addr} {k : Nat} {fd : FuncData} {ps : List Str} {sp : Sp} (EF : ExcBaseFacts B nid initId bmB) (T : OexB X.K C nid bmB) (iC : PySem.W.findIn X.K (.ref C) "__init__" = some (some (.ref fI))) (tI : PySem.W.typeIn X.K (.ref fI) = some (.type "function"))
    (F1 : FnOk X.prog X.w X.K X.mg X.base CX k fI fd ps sp) (hr : Room (k + 1) X.A) (hb : Binds X.K fd ps []) (hx : Passes CX X (fun _ _ _ => False)) (hg : Gl X x) (hm : X.mg x = some (.ref C)) (hdb : (x == ("__debug__" : Str)) = false := by decide) :
    PMk X (.Call (.Name x p) [] [] pos) (tMkB C sp tNil) := fun pins s σ H Q I h =>
  wpAny_Call_Name_kw (ld_glob I hg hm (PySem.W.callWith_K0 I.kIn T.kC (make_at EF T iC tI F1 hr hb hx I .nil (Nat.zero_le _) h.2)) hdb)
end
end HL

namespace HL
open PySem PySem.Spec PyProof.Rows L2
/-! o.m(e, .., k = v, ..) of an instance -/
def tMethK (C : Addr) (m : Str) (n nk : Nat) (sp : Sp) (gV : List V → List V → List V) (E : XK) (ta : TE) (t tk : TA) : TE := fun σ H Q => ta σ H fun x H1 => ∃ a dx fs, x = .ref a ∧ H1 a = some (.ins C dx fs) ∧ fs.lookup m = none ∧
  t σ H1 fun vs H2 => tk σ H2 fun zs H3 => vs.length = n ∧ zs.length = nk ∧ sp (gV (x :: vs) zs) H3 Q E
section
variable {X : Cx} {CX : CXT} {k n : Nat} {f C : Addr} {fd : FuncData} {ps ks : List Str} {sp : Sp} {E : XK} {m : Str} {pos apos : Pos} {e o : Expr} {es : List Expr} {kws : List Keyword} {ta : TE} {t tk : TA} {g : List Value → List Value → List Value} {gV : List V → List V → List V}
theorem pe_methK {pl : Sem Bool} (he : PE X o ta) (c : Cls X.K C) (hm : Meth X.K C m f) (F : FnOk X.prog X.w X.K X.mg X.base CX k f fd ps sp) (hr : Room k X.A) (hb : KBn X.K fd ps (n + 1) ks g gV) (hx : Passes CX X E) (ha : PA X (e :: es) t) (hkw : PK X kws tk)
    (hall : (backToKw pos (keywordEach kws X.env)).all (·.1.isSome) = true := by rfl) (hks : (backToKw pos (keywordEach kws X.env)).filterMap (·.1) = ks := by rfl)
    (hst : starEach (e :: es) X.env = (false, eval e X.env) :: starEach es X.env := by rfl)
    (hpl : ((backTo pos (starEach (e :: es) X.env)).any (·.1) || (backToKw pos (keywordEach kws X.env)).any (·.1.isNone)) = false := by rfl)
    (ht : eval (.Call (.Attribute o m apos) (e :: es) kws pos) X.env = (do
      let ov ← eval o X.env
      standAt apos.atName
      let (f, first) ← holding [ov] (getMethod ov m pl)
      callWith pos f first (backTo pos (starEach (e :: es) X.env)) (backToKw pos (keywordEach kws X.env))) := by rfl) :
    PE X (.Call (.Attribute o m apos) (e :: es) kws pos) (tMethK C m n ks.length sp gV E ta t tk) := by
  refine ⟨fun pins s σ H Q I h => ?_⟩
  refine PySem.W.methodCall_KW (pl := pl) (thn (he.run pins s σ H _ I h) fun u s1 ⟨x, H1, I1, rx, a, dx, fs, ex, ea, l, q⟩ => ?_) ht
  subst ex
  obtain rfl : u = Value.ref a := rx
  refine getmeth_ok I1 ea c hm l ?_
  refine PySem.W.callWith_KW (first := [.ref a]) (h₀ := X.base) I.ok.mod.kin hm.kp hall (thn (ha.run pos pins s1 σ H1 _ I1 q) fun us s2 ⟨vs, H2, I2, r, q2⟩ => ?_) hpl hst
  refine thn (hkw.run pos pins s2 σ H2 _ I2 q2) fun ws s3 ⟨zs, H3, I3, rz, l1, l2, q3⟩ => ⟨I3.kIn, ?_⟩
  rw [hks]
  exact run_fnN (us := .ref a :: us) (vs := .ref a :: vs) F hr hb hx I3 (.cons rfl r) rz (by rw [List.length_cons, l1]) l2 q3
end
end HL

namespace HL
open PySem PySem.Spec PyProof.Rows L2
/-! len(o), str(o), repr(o), o == x of an instance whose class has its own methods for them -/
section
variable {X : Cx} {CX : CXT} {k : Nat} {f C : Addr} {fd : FuncData} {ps : List Str} {sp : Sp} {E : XK}
/-- a method run within a built-in's call -/
theorem run_fnA {A : Around} {pins : List (Addr × Obj)} {σ : L2.St} {H : Hp} {s : Shared} {Q : VK} {us : List Value} {vs : List V} (F : FnOk X.prog X.w X.K X.mg X.base CX k f fd ps sp) (hr : Room k A) (e0 : Env0 X.prog X.w X.K X.mg X.base A X.stack s H) (hb : Binds X.K fd ps []) (hx : Passes CX X E)
    (I : Inv X pins σ H s) (r : Vals vs us) (h : sp vs H Q E) : wpAny (model X.prog X.w) A (call (.ref f) us) (EP X pins σ Q) X.xe s := by
  have hl : (us ++ []).length = ps.length := by rw [List.append_nil, ← r.length]; exact F.len _ _ _ _ h
  have hb' := hb s us I.kIn hl
  rw [List.append_nil] at hb'
  refine wpAny_call (codeAny_mono (F.run A X.stack s H ⟨us, []⟩ us vs Q E hr e0 hb' r h) fun r s' hq => ?_)
  cases r with
  | error e => exact hx pins σ H s e s' I hq
  | ok fl =>
    cases fl with
    | ret u => exact I.after hq
    | next => exact False.elim hq
    | brk => exact False.elim hq
    | cont => exact False.elim hq
/-- what is asked of a method behind a built-in: R of its answer -/
def rDun (C : Addr) (sp : Sp) (R : VK → VK) (E : XK) : List V → Hp → VK → Prop := fun xs H Q => ∃ a dx fs, xs = [.ref a] ∧ H a = some (.ins C dx fs) ∧ sp [.ref a] H (R Q) E
def lenQ : VK → VK := fun Q v H => ∃ n : Int, v = .int n ∧ (0 ≤ n ∧ n < 2 ^ 63) ∧ Q (.int n) H
def strQ : VK → VK := fun Q v H => ∃ z : Str, v = .str z ∧ Q (.str z) H
theorem call_lenO (F : FnOk X.prog X.w X.K X.mg X.base CX k f fd ps sp) (hs : PySem.W.findIn X.K (.ref C) "__len__" = some (some (.ref f))) (hf : PySem.W.isFn X.K (.ref f) = true) (hb : Binds X.K fd ps []) (hr : Room (k + 1) X.A) (hx : Passes CX X E) : CallR X (.builtin "len") (rDun C sp lenQ E) := by
  intro pins s σ H vs us Q I rv h
  obtain ⟨a, dx, fs, rfl, ha, h⟩ := h
  cases rv with
  | cons r0 t0 =>
  cases t0
  cases r0
  obtain ⟨mA, J, _⟩ := ins_get I.hok ha
  obtain ⟨od, J, _⟩ := J.look
  obtain ⟨m, hF⟩ := I.fr
  refine PySem.W.len_K hF I.ok.mod.kin J hs hf (wpAny_mono (run_fnA (us := [.ref a]) (vs := [.ref a]) F hr.in1 I.env0.in1 hb hx I (.cons rfl .nil) h) (fun u s' hq => ?_) fun _ _ x => x)
  obtain ⟨v, H', I', rv, n, rfl, hn, q⟩ := hq
  obtain ⟨t, rfl⟩ := rv
  exact ⟨hn, .int n, H', I'.tok _, ⟨_, rfl⟩, q⟩
theorem call_reprO (F : FnOk X.prog X.w X.K X.mg X.base CX k f fd ps sp) (hs : PySem.W.findIn X.K (.ref C) "__repr__" = some (some (.ref f))) (hf : PySem.W.isFn X.K (.ref f) = true) (hb : Binds X.K fd ps []) (hr : Room (k + 1) X.A) (hx : Passes CX X E) : CallR X (.builtin "repr") (rDun C sp strQ E) := by
  intro pins s σ H vs us Q I rv h
  obtain ⟨a, dx, fs, rfl, ha, h⟩ := h
  cases rv with
  | cons r0 t0 =>
  cases t0
  cases r0
  obtain ⟨mA, J, _⟩ := ins_get I.hok ha
  obtain ⟨od, J, _⟩ := J.look
  obtain ⟨m, hF⟩ := I.fr
  refine PySem.W.repr_K hr.in1.units0 hF I.ok.mod.kin J hs hf (wpAny_mono (run_fnA (us := [.ref a]) (vs := [.ref a]) F hr.in1 I.env0.in1 hb hx I (.cons rfl .nil) h) (fun u s' hq => ?_) fun _ _ x => x)
  obtain ⟨v, H', I', rv, z, rfl, q⟩ := hq
  obtain ⟨t, rfl⟩ := rv
  exact ⟨.str z, H', I', ⟨_, rfl⟩, q⟩
theorem call_strO (F : FnOk X.prog X.w X.K X.mg X.base CX k f fd ps sp) (hs : PySem.W.findIn X.K (.ref C) "__str__" = some (some (.ref f))) (hf : PySem.W.isFn X.K (.ref f) = true) (hb : Binds X.K fd ps []) (hr : Room (k + 2) X.A) (hx : Passes CX X E) : CallR X (.type "str") (rDun C sp strQ E) := by
  intro pins s σ H vs us Q I rv h
  obtain ⟨a, dx, fs, rfl, ha, h⟩ := h
  cases rv with
  | cons r0 t0 =>
  cases t0
  cases r0
  obtain ⟨mA, J, _⟩ := ins_get I.hok ha
  obtain ⟨od, J, _⟩ := J.look
  have hr2 : Room k X.A.in1.in1 := (Room.in1 (k := k + 1) hr).in1
  refine PySem.W.kso_call hr2.units0 I.kIn J hs hf (wpAny_mono (run_fnA (us := [.ref a]) (vs := [.ref a]) F hr2 I.env0.in1.in1 hb hx I (.cons rfl .nil) h) (fun u s' hq => ?_) fun _ _ x => x)
  obtain ⟨v, H', I', rv, z, rfl, q⟩ := hq
  obtain ⟨t, rfl⟩ := rv
  exact ⟨.str z, H', I', ⟨_, rfl⟩, q⟩
end
end HL

namespace HL
open PySem PySem.Spec PyProof.Rows L2 SX
open TL (tl)
/-! ### numbers in a text -/
abbrev ten : List Nat := [48, 49, 50, 51, 52, 53, 54, 55, 56, 57]
def figs : List Nat → List Nat
  | 45 :: r => r
  | z => z
def dig (c : Nat) : Bool := decide (c ∈ ten)
def hd0 (z : List Nat) : Bool := decide (z.head? = some 48)
def isNum (z : List Nat) : Bool := decide (1 ≤ (figs z).length ∧ (figs z).length ≤ 30) && ((figs z).all dig && (!hd0 (figs z) || decide (z = [48])))
def valW (z : List Nat) : Int := match z with
  | 45 :: r => -((NumText.digitsVal r : Nat) : Int)
  | z => ((NumText.digitsVal z : Nat) : Int)
def numV (z : List Nat) : V := if isNum z = true then .int (valW z) else .non
theorem dig_iff {c : Nat} : dig c = true ↔ 48 ≤ c ∧ c ≤ 57 := by
  unfold dig ten
  rw [decide_eq_true_iff]
  simp only [List.mem_cons, List.mem_nil_iff, or_false]
  omega
theorem figs_ne {z : List Nat} (h : z.head? ≠ some 45) : figs z = z := by
  unfold figs
  split
  · exact absurd rfl h
  · rfl
theorem figs_le (z : List Nat) : (figs z).length ≤ z.length := by
  unfold figs
  split
  · rw [List.length_cons]
    omega
  · exact Nat.le_refl _
theorem valW_ne {z : List Nat} (h : z.head? ≠ some 45) : valW z = ((NumText.digitsVal z : Nat) : Int) := by
  unfold valW
  split
  · exact absurd rfl h
  · rfl
theorem isNum_parts {z : List Nat} (h : isNum z = true) : 1 ≤ (figs z).length ∧ (figs z).length ≤ 30 ∧ NumText.AllDigits (figs z) := by
  unfold isNum at h
  rw [Bool.and_eq_true, Bool.and_eq_true, decide_eq_true_iff, List.all_eq_true] at h
  exact ⟨h.1.1, h.1.2, fun c hc => dig_iff.mp (h.2.1 c hc)⟩
theorem int_word {z : List Nat} (h : isNum z = true) : intText? (S z) = some (valW z) ∧ (S z).length ≤ 640 := by
  obtain ⟨h1, h2, h3⟩ := isNum_parts h
  have hz : z.length ≤ 31 := by
    unfold figs at h2
    split at h2
    · rw [List.length_cons]
      omega
    · omega
  have hl : (S z).length ≤ 640 := by
    rw [S_len]
    omega
  refine ⟨?_, hl⟩
  by_cases c : z.head? = some 45
  · cases z with
    | nil => cases c
    | cons x r =>
      have e : x = 45 := Option.some.inj c
      subst e
      have h3' : NumText.AllDigits r := h3
      have h1' : 1 ≤ r.length := h1
      have := intText_neg (x := S (45 :: r)) (cs := r) rfl h3' (fun e => by rw [e] at h1'; simp at h1') (by omega)
      exact this
  · rw [figs_ne c] at h1 h3
    have := intText_digits (x := S z) h3 (fun e => by rw [show z = [] from e] at h1; simp at h1) (by omega)
    rw [valW_ne c]
    exact this
/-! ### numbers written -/
def wr (n : Int) : List Nat := if 0 ≤ n then TL.numL n.toNat else 45 :: TL.numL n.natAbs
theorem tl_wr (n : Int) : Str.ofString (toString n) = S (wr n) := by
  refine TL.ext_tl ?_
  unfold wr
  by_cases h : 0 ≤ n
  · rw [if_pos h]
    have e : n = ((n.toNat : Nat) : Int) := by omega
    have := TL.tl_num n.toNat
    rw [← e] at this
    exact this
  · rw [if_neg h]
    obtain ⟨m, rfl⟩ : ∃ m : Nat, n = Int.negSucc m := by
      cases n with
      | ofNat m => exact absurd (Int.natCast_nonneg m) h
      | negSucc m => exact ⟨m, rfl⟩
    have e1 : toString (Int.negSucc m) = "-" ++ toString ((m + 1 : Nat) : Int) := rfl
    rw [e1]
    have e2 : Str.ofString ("-" ++ toString ((m + 1 : Nat) : Int)) = Str.ofString "-" ++ Str.ofString (toString ((m + 1 : Nat) : Int)) := by
      refine TL.ext_tl ?_
      rw [TL.tl_append, TL.tl_ofString, TL.tl_ofString, TL.tl_ofString, String.toList_append, List.map_append]
    rw [e2, TL.tl_append, TL.tl_num]
    rfl
theorem numL_head {n : Nat} (h : 0 < n) : (TL.numL n).head? ≠ some 48 := by
  induction n using Nat.strongRecOn with
  | _ n ih =>
    by_cases c : n < 10
    · rw [TL.numL_lt c]
      intro e
      have := Option.some.inj e
      omega
    · have i1 := ih (n / 10) (by omega) (by omega)
      rw [TL.numL_step (by omega)]
      cases e : TL.numL (n / 10) with
      | nil => exact absurd e (TL.numL_ne _)
      | cons x r =>
        rw [e] at i1
        exact i1
theorem numL_h45 (n : Nat) : (TL.numL n).head? ≠ some 45 := fun e => by
  have hm : 45 ∈ TL.numL n := List.mem_of_mem_head? e
  have := TL.numL_digits n 45 hm
  omega
theorem wr_free {n : Int} {s : Nat} (h : s < 48 ∨ 57 < s) (h2 : s ≠ 45) : s ∉ wr n := by
  unfold wr
  split
  · exact TL.numL_free h
  · intro hm
    rcases List.mem_cons.mp hm with e | e
    · exact h2 e
    · exact TL.numL_free h e
theorem wr_len {n : Int} (h : n.natAbs < 10 ^ 30) : (wr n).length ≤ 31 := by
  unfold wr
  split
  · have := TL.numL_len (n := n.toNat) (k := 30) (by decide) (by omega)
    omega
  · have := TL.numL_len (n := n.natAbs) (k := 30) (by decide) h
    rw [List.length_cons]
    omega
theorem wr_num {n : Int} (h : n.natAbs < 10 ^ 30) : isNum (wr n) = true ∧ valW (wr n) = n := by
  by_cases c : 0 ≤ n
  · have e : wr n = TL.numL n.toNat := by unfold wr; rw [if_pos c]
    have hf : figs (TL.numL n.toNat) = TL.numL n.toNat := figs_ne (numL_h45 _)
    have hl := TL.numL_len (n := n.toNat) (k := 30) (by decide) (by omega)
    have hn : 1 ≤ (TL.numL n.toNat).length := by
      cases z : TL.numL n.toNat with
      | nil => exact absurd z (TL.numL_ne _)
      | cons x r => rw [List.length_cons]; omega
    rw [e]
    refine ⟨?_, ?_⟩
    · unfold isNum
      rw [hf, Bool.and_eq_true, Bool.and_eq_true, decide_eq_true_iff, List.all_eq_true]
      refine ⟨⟨hn, hl⟩, fun x hx => dig_iff.mpr (TL.numL_digits _ x hx), ?_⟩
      by_cases z : n.toNat = 0
      · rw [z]
        decide
      · have : hd0 (TL.numL n.toNat) = false := decide_eq_false (numL_head (by omega))
        rw [this]
        rfl
    · rw [valW_ne (numL_h45 _), TL.numL_val]
      omega
  · have e : wr n = 45 :: TL.numL n.natAbs := by unfold wr; rw [if_neg c]
    have hl := TL.numL_len (n := n.natAbs) (k := 30) (by decide) h
    have hn : 1 ≤ (TL.numL n.natAbs).length := by
      cases z : TL.numL n.natAbs with
      | nil => exact absurd z (TL.numL_ne _)
      | cons x r => rw [List.length_cons]; omega
    rw [e]
    refine ⟨?_, ?_⟩
    · show (decide (1 ≤ (TL.numL n.natAbs).length ∧ (TL.numL n.natAbs).length ≤ 30) && ((TL.numL n.natAbs).all dig && (!hd0 (TL.numL n.natAbs) || decide (45 :: TL.numL n.natAbs = [48])))) = true
      rw [Bool.and_eq_true, Bool.and_eq_true, decide_eq_true_iff, List.all_eq_true]
      refine ⟨⟨hn, hl⟩, fun x hx => dig_iff.mpr (TL.numL_digits _ x hx), ?_⟩
      have : hd0 (TL.numL n.natAbs) = false := decide_eq_false (numL_head (by omega))
      rw [this]
      rfl
    · show -((NumText.digitsVal (TL.numL n.natAbs) : Nat) : Int) = n
      rw [TL.numL_val]
      omega
/-! ### rows in a text -/
def wordsOf (z : List Nat) : List (List Nat) := TL.spl [44] 0 [] z
theorem split_words (z : List Nat) : Txt.split (S z) (S [44]) = (wordsOf z).map S := split_S (by decide) (by decide)
def rowL (ns : List Int) : List Nat := TL.joinL [44] (ns.map wr)
theorem words_row {ns : List Int} (h : ns ≠ []) : wordsOf (rowL ns) = ns.map wr := by
  refine TL.spl_join (fun e => h (List.map_eq_nil_iff.mp e)) fun p hp => ?_
  obtain ⟨n, _, rfl⟩ := List.mem_map.mp hp
  exact wr_free (.inl (by decide)) (by decide)
theorem join_row (ns : List Int) : Txt.join (S [44]) ((ns.map wr).map S) = S (rowL ns) := join_S _ _
theorem joinL_len : ∀ {ps : List (List Nat)} {k : Nat}, (∀ p ∈ ps, p.length ≤ k) → (TL.joinL [44] ps).length ≤ ps.length * (k + 1)
  | [], k, _ => Nat.zero_le _
  | [p], k, h => by
    have := h p List.mem_cons_self
    show p.length ≤ 1 * (k + 1)
    omega
  | p :: q :: r, k, h => by
    have h1 := h p List.mem_cons_self
    have h2 := joinL_len (ps := q :: r) (k := k) fun z hz => h z (List.mem_cons_of_mem _ hz)
    show (p ++ ([44] ++ TL.joinL [44] (q :: r))).length ≤ (q :: r).length.succ * (k + 1)
    rw [List.length_append, List.length_append, List.length_singleton, Nat.succ_mul]
    omega
theorem rowL_len {ns : List Int} (h : ∀ n ∈ ns, n.natAbs < 10 ^ 30) : (rowL ns).length ≤ ns.length * 32 := by
  have := joinL_len (ps := ns.map wr) (k := 31) fun p hp => by
    obtain ⟨n, hn, rfl⟩ := List.mem_map.mp hp
    exact wr_len (h n hn)
  rw [List.length_map] at this
  exact this
theorem spl_len : ∀ (z acc : List Nat), (TL.spl [44] 0 acc z).length ≤ z.length + 1 ∧ ∀ p ∈ TL.spl [44] 0 acc z, p.length ≤ acc.length + z.length
  | [], acc => by
    rw [TL.spl_nil]
    exact ⟨Nat.le_refl _, fun p hp => by rw [List.mem_singleton.mp hp]; exact Nat.le_refl _⟩
  | c :: r, acc => by
    cases e : TL.pre [44] (c :: r) with
    | true =>
      rw [TL.spl_hit e]
      obtain ⟨h1, h2⟩ := spl_len r []
      refine ⟨by rw [List.length_cons, List.length_cons]; exact Nat.succ_le_succ h1, fun p hp => ?_⟩
      rcases List.mem_cons.mp hp with x | x
      · rw [x]; omega
      · have := h2 p x
        rw [List.length_cons]
        simp at this
        omega
    | false =>
      rw [TL.spl_miss e]
      obtain ⟨h1, h2⟩ := spl_len r (acc ++ [c])
      refine ⟨by rw [List.length_cons]; omega, fun p hp => ?_⟩
      have := h2 p hp
      rw [List.length_append, List.length_singleton] at this
      rw [List.length_cons]
      omega
theorem words_len (z : List Nat) : (wordsOf z).length ≤ z.length + 1 ∧ ∀ p ∈ wordsOf z, p.length ≤ z.length := by
  have := spl_len z []
  exact ⟨this.1, fun p hp => by have := this.2 p hp; simp at this; exact this⟩
/-- a prefix taken away -/
theorem rp_eq (z : List Nat) : Txt.removeprefix (S z) (S [45]) = S (figs z) := by
  rw [PySem.StrLaws.removeprefix_eq]
  have key := TL.at_iff (x := S z) (y := S [45]) (by decide) 0
  rw [List.drop_zero] at key
  have key2 : (decide (0 + (S [45]).length ≤ (S z).length) && Builtin.Str.subAt (S z) (S [45]) 0) = true ↔ TL.pre [45] z = true := by
    rw [Bool.and_eq_true, decide_eq_true_iff]
    exact key
  cases z with
  | nil =>
    rw [if_neg (fun h => by have := key2.mp h; cases this)]
    rfl
  | cons c r =>
    by_cases h : c = 45
    · subst h
      rw [if_pos (key2.mpr (TL.pre_self [45] r))]
      refine TL.ext_tl ?_
      show (List.drop 1 (45 :: r)).take _ = r
      rw [List.drop_succ_cons, List.drop_zero]
      refine List.take_of_length_le ?_
      rw [S_len, S_len, List.length_cons, List.length_singleton]
      omega
    · rw [if_neg (fun h2 => ?_)]
      · rw [figs_ne (z := c :: r) (fun e => h (Option.some.inj e))]
      · have := key2.mp h2
        rw [TL.pre_of_head [] r h] at this
        cases this
end HL

namespace HL
open PySem PySem.Spec PyProof.Rows L2
/-! a list comprehension whose element may raise: what a call in it lets out leaves the def -/
section
variable {X : Cx}
/-- what is in the air of the def goes on out of a comprehension's block -/
theorem xe_comp {W : WX} {ce : Env} {C : Addr} {u : Value} {s' : Shared} {m : Str → Option Value} (hs : X.stack = X.env :: X.outer) (hf : X.env.frame = some X.env.locals) (hcf : ce.frame = X.env.frame) (hL : ce.locals = C)
    (hn : s'.heap.Ns C m) (hst : C ∉ frs X.stack) (p1 : C ≠ X.env.locals) (p3 : C ∈ X.ex ∨ X.s_0.heap.objs.size ≤ C) (p4 : ∀ x c, X.env.cells.lookup x = some c → c ≠ C) (p5 : ∀ p ∈ X.pn, p.1 ≠ C) (tk : Takes X W) (x : XE X (fun cls d σ H => W cls d σ H ∧ H C = none) u s') :
    notedBy (model X.prog X.w) X.A ce (CompFails (model X.prog X.w) X.A X.xe ce) u s' := by
  obtain ⟨a, B, sI, pins, σ, H, cls, d, rfl, I0, nb, up, sky, na, os, ag, w, p0⟩ := x
  have I : Inv X [] σ H sI := ⟨I0.ok, I0.os, I0.bare, I0.base, I0.loc, I0.cell, I0.free, I0.freeC, fun p hp => I0.pin p (List.mem_append_left _ (by simpa using hp)), I0.hok, I0.len⟩
  have hfr : X.A.frames = some (X.env :: X.outer) := by rw [I.ok.frames, hs]
  have fin : ∀ h1, HandSPX.HeldZ B (X.env :: X.outer) a (Zc cls d) X.env.locals h1 → s'.heap.UpToSlots h1 → CompFails (model X.prog X.w) X.A X.xe ce (.ref a) { s' with heap := h1 } := fun h1 hh up1 => by
    obtain ⟨b1, b0, f1, t1⟩ := hh
    have hn1 : h1.Ns C m := hn.upToSlots up1
    refine ⟨m, by rw [hL]; exact hn1, fun h₂ m₂ hn₂ hs₂ => ?_⟩
    rw [hL] at hn₂ hs₂
    obtain ⟨oC, eC, epC, hoC, hdC, _⟩ := hn1
    obtain ⟨oe, vs, T, oT, ts, he, hz, hd, h1', hnT, hTe, hT, hdT, h3⟩ := t1
    have aC : a ≠ C := fun e => by
      rw [e, hoC] at he
      cases he
      rw [hdC] at hd
      cases hd
    have TC : T ≠ C := fun e => by
      rw [e, hoC] at hT
      cases hT
      rw [hdC] at hdT
      cases hdT
    have he2 : h₂.get? a = some oe := (hs₂.2 a aC).trans he
    have hT2 : h₂.get? T = some oT := (hs₂.2 T TC).trans hT
    have hB' : ∀ b o, (PySem.W.hideAll B [C]).get? b = some o → b ≠ C ∧ B.get? b = some o := fun b o e => by
      refine ⟨fun z => ?_, PySem.W.of_hideAll _ e⟩
      rw [z, PySem.W.hideAll_none _ List.mem_cons_self] at e
      cases e
    have hBn : ∀ b, B.get? b = none → (PySem.W.hideAll B [C]).get? b = none := fun b e => by
      cases q : (PySem.W.hideAll B [C]).get? b with
      | none => rfl
      | some o =>
        have := (hB' b o q).2
        rw [e] at this
        cases this
    have b2 : (PySem.W.hideAll B [C]).StaysIn h₂ := fun b o hb => by
      obtain ⟨n1, n2⟩ := hB' b o hb
      exact (hs₂.2 b n1).trans (b1 b o n2)
    have f2 : h₂.FunFrames (PySem.W.hideAll B [C]) (X.env :: X.outer) := by
      have f1' : h1.FunFrames (PySem.W.hideAll B [C]) (X.env :: X.outer) := funFrames_none f1 fun b hb => hBn b (f1.mem hb).1
      exact Heap.FunFrames.sameBut hs₂ hn₂ f1'
    have t2 : HandSPX.TracedZ h₂ (PySem.W.hideAll B [C]) a (Zc cls d) (rawInt X.env.locals) := ⟨oe, vs, T, oT, ts, he2, hz, hd, h1', hBn T hnT, hTe, hT2, hdT, h3⟩
    unfold PySem.passOn
    refine wpAny_bind (wpAny_field he2 hd h1' ?_)
    rw [if_neg (show ¬ ((Value.ref T == Value.none) = true) from by simp)]
    rw [hcf, hf]
    refine wpAny_bind (HandSPX.setFlight_onZ (s := { s' with heap := h₂ }) ⟨b2, hBn a b0, f2, t2⟩ fun h₃ hh3 up3 => ?_)
    refine wpAny_throw (tk _ _ ?_)
    refine ⟨a, PySem.W.hideAll B [C], { sI with heap := PySem.W.hideAll sI.heap [C], toks := sI.toks }, [], σ, H, cls, d, rfl, I.turned (t' := sI.toks) (it := C) (fun b o hb e => PySem.W.hideAll_get _ e (by simpa using hb)) p0 p1 p3 p4 (fun p hp => p5 p (by simpa using hp)), fun b o e hb => ?_, fun b o e hnf => ?_, ?_, na, os, ag, w⟩
    · have e' : (PySem.W.hideAll sI.heap [C]).get? b = some o := e
      have nC : b ≠ C := fun z => by
        rw [z, PySem.W.hideAll_none _ List.mem_cons_self] at e'
        cases e'
      exact PySem.W.hideAll_get _ (nb b o (PySem.W.of_hideAll _ e') hb) (by simpa using nC)
    · have e' : (PySem.W.hideAll sI.heap [C]).get? b = some o := e
      have nC : b ≠ C := fun z => by
        rw [z, PySem.W.hideAll_none _ List.mem_cons_self] at e'
        cases e'
      obtain ⟨sl1, q1⟩ := up b o (PySem.W.of_hideAll _ e') hnf
      obtain ⟨sl2, q2⟩ := up1 b _ q1 hnf
      obtain ⟨sl3, q3⟩ := up3 b _ ((hs₂.2 b nC).trans q2) hnf
      exact ⟨sl3, q3⟩
    · rw [hs]
      exact .inr (.inr hh3)
  show wpAny _ _ (noteFrame (.ref a) ce) _ _ s'
  rw [noteFrame_env _ hcf]
  rw [hs] at sky
  rcases sky with ⟨hB, hn', hl, oe, vs, he, hz, hd, h1⟩ | fl | hh
  · exact HandSPX.look_newZ Zc.steady hfr hl hf he hB hn' hd h1 hz fin
  · exact HandSPX.looks_onZ Zc.steady hfr hf fl fin
  · exact HandSPX.againZ hf hh.2.2.2 (fin s'.heap hh (Heap.UpToSlots.refl _))
/-- [elt for target in iter if ..], the element may raise -/
theorem pe_lcR {elt tg iter : Expr} {ifs : List Expr} {scope : Scope} {own : List (Str × Nat)} {pos : Pos} {wi : TI} {g : TG} {tt : TT} {te : TE} {E : XK} {W : WX} (hc : X.calm = true) (hN : X.N.Nodup) (hst : X.stack = X.env :: X.outer) (hfr : X.env.frame = some X.env.locals) (tk : Takes X W) (hW : ∀ cls d σ H, E cls d H → W cls d σ H)
    (hi : PI X tg iter wi) (ok : BlkOk X.N X.env.scope scope own)
    (hg : ∀ (s : Shared) (H : Hp) (C : Addr) (cl : List (Str × Addr)) (fp : List Addr), PG (X.blk s H scope (compEnvC scope cl C X.env) fp) tg g) (ht : ∀ (s : Shared) (H : Hp) (C : Addr) (cl : List (Str × Addr)) (fp : List Addr), PTs (X.blk s H scope (compEnvC scope cl C X.env) fp) ifs tt)
    (he : ∀ (s : Shared) (H : Hp) (C : Addr) (cl : List (Str × Addr)) (fp : List Addr) (R : Value → Shared → Prop), Passes (L2.CX X.prog X.w) ((X.blk s H scope (compEnvC scope cl C X.env) fp).wish R) E → PE ((X.blk s H scope (compEnvC scope cl C X.env) fp).wish R) elt te) (hs : ∀ x, foldedSetIterable iter X.env x = pure x := by intro _; rfl) :
    PE X (.ListComp elt [⟨tg, iter, ifs, 0⟩] scope pos) (tLc wi g tt te (own.map (·.2))) := by
  refine ⟨fun pins s σ H Q I h => ?_⟩
  rw [eval_ListComp]
  have hfree : ∀ y ∈ scope.names, y.2 = .free → ∃ c, X.env.cells.lookup y.1 = some c := fun y hy e => by
    rcases ok.free y hy e with k | k
    · exact I.ok.has _ (.inl k)
    · exact I.ok.has _ (.inr k)
  refine comprehension_at (use := none) rfl hs (closure_ok hfree) ok.kind (fun y hy e => by rw [ok.uniq y hy, e])
    (thn (hi.run pins s σ H _ I h) fun xv s1 hx => thn hx fun itv s2 h2 => ?_)
  obtain ⟨it, fp, tn, J, H2, e, I2, T, st2, f2, q⟩ := h2
  subst e
  refine wpAny_newObj_type (newEnv_comp ?_) (by show 0 ≤ sizeLine; decide)
  generalize hD : s2.heap.objs.size = D
  have hDn : H2 D = none := I2.hok.fresh (Nat.le_of_eq hD)
  obtain ⟨W', ⟨m0, w0⟩, turn⟩ := q D hDn
  generalize hs3 : ({ s2 with heap := s2.heap.push { cls := .type "list", data := .seq ([] : List Value).toArray } } : Shared) = s3
  have I3 : Inv X pins σ (upd H2 D (.lst [])) s3 := by
    rw [← hs3]
    refine I2.laid (t' := s2.toks) (fun b o e => Heap.get?_push_of_some _ e) (Nat.le_of_eq hD) ⟨Nat.zero_le _, [], 0, .nil, ?_⟩
    rw [← hD]
    exact Heap.get?_push_size _ rfl
  have h3 : s3.heap = s2.heap.push { cls := .type "list", data := .seq ([] : List Value).toArray } := by rw [← hs3]
  have sz : ∀ b ∈ fp, b < s2.heap.objs.size := fun b hb => by
    obtain ⟨o, e, _⟩ := T.obj _ _ st2 b hb
    exact Heap.lt_size e
  have f3 : ∀ b ∈ fp, FpOk X pins (upd H2 D (.lst [])) b ∧ b < s3.heap.objs.size := fun b hb => by
    have hlt := sz b hb
    refine ⟨⟨?_, (f2 b hb).2⟩, by rw [h3, Heap.size_push]; exact Nat.lt_succ_of_lt hlt⟩
    rw [upd_ne (by rw [← hD]; exact Nat.ne_of_lt hlt)]
    exact (f2 b hb).1
  have st3 : tn 0 s3.heap := T.keep _ _ _ st2 fun b _ o e => by rw [h3]; exact Heap.get?_push_of_some _ e
  have I4 := block_start I3 ok hN f3
  have pg := hg s3 (upd H2 D (.lst [])) s3.heap.objs.size (cellsFrom (s3.heap.objs.size + 1) scope.names (cloFrom X.env.cells scope.names [])) fp
  have pt := ht s3 (upd H2 D (.lst [])) s3.heap.objs.size (cellsFrom (s3.heap.objs.size + 1) scope.names (cloFrom X.env.cells scope.names [])) fp
  have pe := he s3 (upd H2 D (.lst [])) s3.heap.objs.size (cellsFrom (s3.heap.objs.size + 1) scope.names (cloFrom X.env.cells scope.names [])) fp
  show codeAny _ _ (.compStart (.ListComp elt [⟨tg, iter, ifs, 0⟩] scope pos) 0 (.ref it) (.ref D) (compEnvC scope (cellsFrom (s3.heap.objs.size + 1) scope.names (cloFrom X.env.cells scope.names [])) s3.heap.objs.size X.env)) (compEnds (model X.prog X.w) X.A X.xe none (EP X pins σ Q) (.ref D) (compEnvC scope (cellsFrom (s3.heap.objs.size + 1) scope.names (cloFrom X.env.cells scope.names [])) s3.heap.objs.size X.env)) { s3 with heap := pushCells (s3.heap.push { cls := .type "dict", data := .dict #[] }) scope.names }
  have nfp : ∀ b ∈ fp, (upd H2 D (.lst [])) b = none := fun b hb => (f3 b hb).1.1
  generalize hce : compEnvC scope (cellsFrom (s3.heap.objs.size + 1) scope.names (cloFrom X.env.cells scope.names [])) s3.heap.objs.size X.env = ce at I4 pg pt pe ⊢
  have cL : ce.locals = s3.heap.objs.size := by subst hce; rfl
  have cF : ce.frame = X.env.frame := by subst hce; rfl
  generalize hH3 : upd H2 D (.lst []) = H3 at I3 I4 pg pt pe w0 nfp f3
  generalize hs4 : ({ s3 with heap := pushCells (s3.heap.push { cls := .type "dict", data := .dict #[] }) scope.names } : Shared) = s4 at I4 ⊢
  have st4 : tn 0 s4.heap := T.keep _ _ _ st3 fun b _ o e => by rw [← hs4]; exact pushCells_keeps _ _ _ _ (Heap.get?_push_of_some _ e)
  have stat : ∀ {σ' : L2.St} {H' : Hp} {s' : Shared}, Inv (X.blk s3 H3 scope ce fp) [] σ' H' s' → (∀ b ∈ fp, H' b = none) → ∀ b ∈ fp, FpOk (X.blk s3 H3 scope ce fp) [] H' b := fun {σ' H' s'} I' hn b hb =>
    ⟨hn b hb, (I'.ok.exf b hb).1, I'.ok.exfs b hb, .inl hb, fun x c e => (I'.ok.exf b hb).2 x c e, fun p hp => absurd (show p ∈ ([] : List (Addr × Obj)) ++ [] from hp) (by simp)⟩
  have nstk : s3.heap.objs.size ∉ frs X.stack := fun hm => by
    obtain ⟨_, o, ho, _⟩ := I3.stack.mem hm
    exact absurd (Heap.lt_size ho) (Nat.lt_irrefl _)
  -- back in the def's context
  have back : ∀ {pins' : List (Addr × Obj)} {σ' : L2.St} {H' : Hp} {s' : Shared}, Inv (X.blk s3 H3 scope ce fp) pins' σ' H' s' → Inv X pins σ H' s' := fun {pins' σ' H' s'} I6 =>
    I3.call' (ch := fp) I6.os I6.base I6.hok I6.bare fun b hb => ⟨(f3 b hb).1.2.2.2.1, (f3 b hb).1.2.1, (f3 b hb).1.2.2.2.2.1, (f3 b hb).1.2.2.2.2.2⟩
  have pass : Passes (L2.CX X.prog X.w) ((X.blk s3 H3 scope ce fp).wish (notedBy (model X.prog X.w) X.A ce (CompFails (model X.prog X.w) X.A X.xe ce))) E := fun pins' σ' H' s5 e s6 Iw c => by
    have Ib := Iw.unwish
    have c : L2.CX X.prog X.w X.stack H' s5 E e s6 := c
    have I7 := back Ib
    obtain ⟨m, hn, _⟩ := Ib.loc
    have hn : s5.heap.Ns ce.locals m := hn
    rw [cL] at hn
    have nC : H' s3.heap.objs.size = none := by
      have z : H' ce.locals = none := Ib.free
      rw [cL] at z
      exact z
    have hn6 : s6.heap.Ns s3.heap.objs.size m := by
      obtain ⟨a, B, H'', cls, d, rfl, fl, hok, ub, na, os, ag, hE⟩ := c
      obtain ⟨o, es, ep, ho, r⟩ := hn
      exact ⟨o, es, ep, fl.1 _ _ (ub.keep _ o ho nC nstk), r⟩
    have c2 : L2.CX X.prog X.w X.stack H' s5 (fun cls d H'' => E cls d H'' ∧ H'' s3.heap.objs.size = none) e s6 := by
      obtain ⟨a, B, H'', cls, d, rfl, fl, hok, ub, na, os, ag, hE⟩ := c
      obtain ⟨o, es, ep, ho, r⟩ := hn
      exact ⟨a, B, H'', cls, d, rfl, fl, hok, ub, na, os, ag, hE, ub.free _ o ho nC⟩
    obtain ⟨f0, f1, f2', f3', f4, f5⟩ := I3.fpOk (Nat.le_refl _) nC
    exact xe_comp hst hfr cF cL hn6 nstk f1 f3' f4 (fun p hp => f5 p (List.mem_append_left _ hp)) tk (XE.of_call I7 (fun cls d H'' h => ⟨hW cls d σ H'' h.1, h.2⟩) c2)
  have loop : codeAny (model X.prog X.w) X.A (.compLoop (.ListComp elt [⟨tg, iter, ifs, 0⟩] scope pos) 0 (.ref it) (.ref D) ce) (compEnds (model X.prog X.w) X.A X.xe none (EP X pins σ Q) (.ref D) ce) s4 := by
    refine compLoop_any (fun n s' => ∃ i H', Inv (X.blk s3 H3 scope ce fp) [] (wipe σ (own.map (·.2))) H' s' ∧ tn i s'.heap ∧ (∀ b ∈ fp, H' b = none) ∧ W' i n H') ?_ m0 ⟨0, H3, I4, st4, nfp, w0⟩
    rintro n s5 ⟨i, H5, I5, st5, n5, w5⟩
    rcases turn i n H5 w5 with ⟨stop, qq⟩ | ⟨go, Nx, hNx, step⟩
    · have td := T.done (X.blk s3 H3 scope ce fp) rfl rfl rfl hc i [] s5 _ H5 (fun _ _ => False) I5 (stat I5 n5) st5 stop
      refine thnF td fun r s6 ⟨hr, I6⟩ => ?_
      subst hr
      have I7 : Inv X pins σ H5 s6 := back I6
      have nC : H5 s3.heap.objs.size = none := by
        have z : H5 ce.locals = none := I6.free
        rw [cL] at z
        exact z
      obtain ⟨m, hn, _⟩ := I6.loc
      have hn : s6.heap.Ns ce.locals m := hn
      refine ⟨m, hn, fun h'' sb => ?_⟩
      rw [cL] at sb
      obtain ⟨f0, f1, f2', f3', f4, f5⟩ := I3.fpOk (Nat.le_refl _) nC
      exact ⟨.ref D, H5, I7.turned (t' := s6.toks) (fun b o hb e => (sb.2 b hb).trans e) f0 f1 f3' f4 f5, rfl, qq⟩
    · have ti := T.item (X.blk s3 H3 scope ce fp) rfl rfl rfl hc i [] s5 _ H5 (fun _ _ => False) I5 (stat I5 n5) st5 go
      refine thnF ti fun r s6 ⟨u, hr, h6⟩ => ?_
      subst hr
      refine thnF h6 fun _ s7 ⟨x, H7, I7, r7, y7, st7, n7⟩ => ?_
      have I7' := I7.pinned (stat I7 n7) (T.obj _ _ st7)
      refine thnF (pg.run _ s7 _ H7 x u _ I7' r7 (step x H7 y7)) fun _ s8 ⟨σ8, H8, I8, hw8, q8⟩ => ?_
      refine thnF (pt.run _ s8 σ8 H8 _ I8 q8) fun b s9 ⟨H9, I9, q9⟩ => ?_
      have fin : ∀ {s' : Shared} {H' : Hp}, Inv (X.blk s3 H3 scope ce fp) ([] ++ pinsAt fp s7.heap) σ8 H' s' → Nx H' → ∃ m, m < n ∧ ∃ i H', Inv (X.blk s3 H3 scope ce fp) [] (wipe σ (own.map (·.2))) H' s' ∧ tn i s'.heap ∧ (∀ b ∈ fp, H' b = none) ∧ W' i m H' := fun {s' H'} I' nx => by
        obtain ⟨m', hm, w'⟩ := hNx H' nx
        have pin' : ∀ b ∈ fp, ∀ o, s7.heap.get? b = some o → s'.heap.get? b = some o ∧ H' b = none := fun b hb o e =>
          let z := I'.pin (b, o) (List.mem_append_right _ (List.mem_append_right _ (mem_pinsAt hb e)))
          ⟨z.1, z.2.1⟩
        have hl : (wipe σ (own.map (·.2))).length = σ8.length := by rw [← hw8, wipe_length]
        refine ⟨m', hm, i + 1, H', (I'.unpinned (pins := [])).weak hl (fun j v e => ?_), T.keep _ _ _ st7 fun b hb o e => (pin' b hb o e).1, fun b hb => ?_, w'⟩
        · rw [← hw8] at e
          exact (wipe_some e).1
        · obtain ⟨o, e, _⟩ := T.obj _ _ st7 b hb
          exact (pin' b hb o e).2
      cases b with
      | false =>
        simp only [Bool.false_eq_true, if_false] at q9 ⊢
        exact fin I9 q9
      | true =>
        simp only [if_true] at q9 ⊢
        refine wpAny_mono ((pe _ pass).run _ s9 σ8 H9 _ (I9.wish _) q9) (fun z s10 ⟨yv, H10, I10w, r10, acc, hD10, hz10, nx⟩ => ?_) fun _ _ z => z
        exact app_ok (X := X.blk s3 H3 scope ce fp) I10w.unwish hD10 hz10 r10 fun s11 I11 => fin I11 nx
  exact codeAny_compStart_list loop (T.self X.A 0 _ _ _ st4 loop)
end
end HL

namespace HL
open PySem PySem.Spec PyProof.Rows L2
open LamX (CodeO Tabs TabS TabB ExtN LamS codeO_ne among_app inv_table)
/-! lambdas as values: made, kept in lists, called later, also behind the end of the def that made them -/
/-- a lambda that stands at f: its name q, the cells cl that it holds -/
def LamO (f : Addr) (q : Str) (ps : Arguments) (b : Expr) (sc : Scope) (cl : List (Str × Addr)) (c' : Addr) : HO := .ext fun h => ∃ pm ct : Value, h.get? f = some (PySem.W.kla_obj "<lambda>" q ps b sc cl pm c' ct)
/-- a cell of a def that has ended: it holds v -/
def CellO (c : Addr) (v : V) : HO := .ext fun h => ∃ u : Value, RelV v u ∧ h.IsCell c (some u)
theorem ext_own {φ : Heap → Prop} {x : Addr} : HO.ext φ ≠ .own x := fun z => by cases z
theorem ext_tup {φ : Heap → Prop} {xs : List V} : HO.ext φ ≠ .tup xs := fun z => by cases z
theorem cellO_ok {P : Program} {w : World} {H : Hp} {h : Heap} {c : Addr} {v : V} {u : Value} (r : RelV v u) (hc : h.IsCell c (some u)) : ObjOk P w H h c (CellO c v) :=
  ⟨⟨u, r, hc⟩, let ⟨o, ho, _⟩ := hc; ⟨o, ho⟩, fun h1 h2 ⟨u1, r1, o1, e1, d1⟩ k => ⟨u1, r1, o1, k _ e1, d1⟩⟩
theorem cellO_at {P : Program} {w : World} {H : Hp} {h : Heap} {c : Addr} {v : V} (hok : HOk P w H h) (e : H c = some (CellO c v)) : ∃ u, RelV v u ∧ h.IsCell c (some u) := by
  have x : ObjOk P w H h c (.ext fun h => ∃ u : Value, RelV v u ∧ h.IsCell c (some u)) := hok c _ e
  exact x.1
theorem lamO_ok {P : Program} {w : World} {H : Hp} {h : Heap} {f c' : Addr} {q : Str} {ps : Arguments} {b : Expr} {sc : Scope} {cl : List (Str × Addr)} {pm ct : Value} (e : h.get? f = some (PySem.W.kla_obj "<lambda>" q ps b sc cl pm c' ct)) : ObjOk P w H h f (LamO f q ps b sc cl c') :=
  ⟨⟨pm, ct, e⟩, ⟨_, e⟩, fun h1 h2 ⟨p1, t1, e1⟩ k => ⟨p1, t1, k _ e1⟩⟩
theorem lamO_at {P : Program} {w : World} {H : Hp} {h : Heap} {f c' : Addr} {q : Str} {ps : Arguments} {b : Expr} {sc : Scope} {cl : List (Str × Addr)} (hok : HOk P w H h) (e : H f = some (LamO f q ps b sc cl c')) : ∃ pm ct : Value, h.get? f = some (PySem.W.kla_obj "<lambda>" q ps b sc cl pm c' ct) := by
  have x : ObjOk P w H h f (.ext fun h => ∃ pm ct : Value, h.get? f = some (PySem.W.kla_obj "<lambda>" q ps b sc cl pm c' ct)) := hok f _ e
  exact x.1
/-- a thing of its own kind more that is known: the rest stands -/
theorem hok_ext {P : Program} {w : World} {H : Hp} {h : Heap} {c : Addr} {φ : Heap → Prop} (hok : HOk P w H h) (n : H c = none) (q : ObjOk P w (upd H c (.ext φ)) h c (.ext φ)) : HOk P w (upd H c (.ext φ)) h := fun b o e => by
  by_cases hb : b = c
  · subst hb
    rw [upd_same] at e
    cases e
    exact q
  · rw [upd_ne hb] at e
    have ne : ∀ d u, H d = some u → d ≠ c := fun d u z y => by
      rw [y, n] at z
      cases z
    exact (hok b o e).stay (fun d v _ z => z) (fun d z => by rw [upd_ne (ne d _ z)]; exact z) (fun d xs z => by rw [upd_ne (ne d _ z)]; exact z)
/-- a new thing of the heap is known from now on -/
theorem inv_know {X : Cx} {pins : List (Addr × Obj)} {σ : L2.St} {H H0 : Hp} {s s0 : Shared} {f : Addr} {φ : Heap → Prop} (I0 : Inv X pins σ H0 s0) (I : Inv X pins σ H s) (hn : H f = none) (hf : s0.heap.objs.size ≤ f) (q : ObjOk X.prog X.w (upd H f (.ext φ)) s.heap f (.ext φ)) : Inv X pins σ (upd H f (.ext φ)) s := by
  have old : ∀ b, b < s0.heap.objs.size → b ≠ f := fun b l z => by
    rw [z] at l
    exact Nat.lt_irrefl _ (Nat.lt_of_lt_of_le l hf)
  have sm : ∀ b u, H b = some u → b ≠ f := fun b u e z => by
    rw [z, hn] at e
    cases e
  have J := I.step (h' := s.heap) (g' := s.gens) (t' := s.toks) (d' := s.drawn) (H' := upd H f (.ext φ)) (ch := [f]) (fun b hb => ?_) (fun b o _ _ _ e _ => e) (fun b o _ _ _ e _ => ⟨o.slots, e⟩) (fun b o hb e n => ?_) (fun b o _ e => ⟨o, e⟩)
    (fun b xs e => by rw [upd_ne (sm b _ e)]; exact e) (fun b o u e => by rw [upd_ne (sm b _ e)]; exact e) (fun b ps e => ⟨#[], by rw [upd_ne (sm b _ e), e]; simp⟩) (fun m hm => hm) (hok_ext I.hok hn q) I.bare
  · exact J
  · have e : b = f := by simpa using hb
    rw [e]
    refine ⟨.inr (Nat.le_trans I0.sz hf), fun z => old _ I0.lt z.symm, fun x c hc => old c ?_, fun p hp => old p.1 (Heap.lt_size (I0.pin p hp).1)⟩
    obtain ⟨v, o, ho, _⟩ := I0.cell x c hc
    exact Heap.lt_size ho
  · rw [upd_ne (fun z => hb (by simp [z]))]
    exact n
/-! ### a lambda is made -/
theorem lam_new {X : Cx} {pins : List (Addr × Obj)} {σ : L2.St} {H : Hp} {s : Shared} {T : List (Addr × Str)} {c P : Addr} {ps : Arguments} {b : Expr} {sc : Scope} {pos : Pos} {E Q : Value → Shared → Prop} (I : Inv X pins σ H s) (TB : TabB X.base X.mg c P) (hc : X.env.code = .ref c)
    (hm : (P, X.env.qual ++ "<lambda>") ∈ T) (hu : ∀ p ∈ T, p.1 = P → p.2 = X.env.qual ++ "<lambda>") (hT : Tabs T H) (hd : defaultsOf ps X.env = ([], [])) (hv : ∀ y ∈ sc.names, y.2 = .free → ∃ c, X.env.cells.lookup y.1 = some c)
    (k : ∀ (f c' : Addr) (pm ct : Value) (H1 : Hp) (s1 : Shared), Inv X pins σ H1 s1 → ExtN H H1 → Tabs T H1 → s1.heap.get? f = some (PySem.W.kla_obj "<lambda>" (X.env.qual ++ "<lambda>") ps b sc (cloFrom X.env.cells sc.names []) pm c' ct) → H1 f = none → s.heap.objs.size ≤ f →
      H1 c' = some (CodeO c' (X.env.qual ++ "<lambda>")) → Q (.ref f) s1) : wpAny (model X.prog X.w) X.A (eval (.Lambda ps b sc pos) X.env) Q E s := by
  obtain ⟨tb, eP, okT, allT⟩ := hT _ hm
  have gP : s.heap.get? P = some { cls := .none, data := .fields tb } := I.hok P _ eP
  have bP := TB.bm.keeps I.bk
  refine PySem.W.kla_eval hd ?_
  cases am : codeAmong pos tb.toList with
  | some cv =>
    obtain ⟨c', ec, co⟩ := allT pos cv am
    rw [ec] at am
    refine PySem.W.kla_makeFunctionHit (mg := X.mg) (c := c) (P := P) (ps := tb) (closure_ok hv) I.ok.glob (I.mod.glob.keeps I.bk) hc (TB.code.keeps I.bk) gP okT am bP fun ct hh tk up le => ?_
    have I1 : Inv X pins σ H { s with heap := hh.push (PySem.W.kla_obj "<lambda>" (X.env.qual ++ "<lambda>") ps b sc (cloFrom X.env.cells sc.names []) ((X.mg "__name__").getD .none) c' ct), toks := tk } :=
      I.kept fun a o e => Heap.get?_push_of_some _ (up a o e)
    exact k _ c' _ ct H _ I1 (ExtN.refl H) hT (Heap.get?_push_size _ rfl) (I.hok.fresh le) le co
  | none =>
    refine PySem.W.kla_makeFunction (mg := X.mg) (c := c) (P := P) (ps := tb) (closure_ok hv) I.ok.glob (I.mod.glob.keeps I.bk) hc (TB.code.keeps I.bk) gP okT am TB.gP bP fun c' ct hh tk up ge lt rec at2 => ?_
    obtain ⟨c2, oc, vs, t, e2, e3, e4, e5⟩ := rec
    cases e2
    have le : s.heap.objs.size ≤ hh.objs.size := Nat.le_trans ge (Nat.le_of_lt lt)
    have nc : H c' = none := I.hok.fresh ge
    have eq : (tb ++ #[rawInt pos.line, rawInt pos.col, .ref c']).toList = tb.toList ++ [rawInt pos.line, rawInt pos.col, .ref c'] := by simp
    have I1 := inv_table (t' := tk) (more := #[rawInt pos.line, rawInt pos.col, .ref c']) (q := X.env.qual ++ "<lambda>") (h' := hh.push (PySem.W.kla_obj "<lambda>" (X.env.qual ++ "<lambda>") ps b sc (cloFrom X.env.cells sc.names []) ((X.mg "__name__").getD .none) c' ct)) I eP
      (fun a o ha e => Heap.get?_push_of_some _ (up a o ha e)) (Heap.get?_push_of_some _ at2) ge ⟨oc, vs, t, Heap.get?_push_of_some _ e3, e4, e5⟩
    have eN : ExtN H (upd (upd H P (.tbl (tb ++ #[rawInt pos.line, rawInt pos.col, .ref c']))) c' (CodeO c' (X.env.qual ++ "<lambda>"))) := fun a o e n => by
      rw [upd_ne (ne_of_none e nc), upd_ne fun z => n tb (Option.some.inj (e.symm.trans (by rw [z]; exact eP)))]
      exact e
    have ltP : P < hh.objs.size := Nat.lt_of_lt_of_le (Heap.lt_size gP) le
    refine k hh.objs.size c' _ ct _ _ I1 eN (fun p hp => ?_) (Heap.get?_push_size _ rfl) ?_ le upd_same
    · by_cases ep : p.1 = P
      · rw [hu p hp ep, ep]
        refine ⟨_, by rw [upd_ne (ne_of_none eP nc), upd_same], by rw [eq]; exact PySem.TriplesOk_snoc _ _ _ _ okT, fun p' cv z => ?_⟩
        rw [eq] at z
        rcases among_app _ okT z with y | y
        · obtain ⟨c0, x1, x2⟩ := allT p' cv y
          exact ⟨c0, x1, eN _ _ x2 codeO_ne⟩
        · exact ⟨c', y, upd_same⟩
      · obtain ⟨tb2, x1, x2, x3⟩ := hT p hp
        refine ⟨tb2, by rw [upd_ne (ne_of_none x1 nc), upd_ne ep]; exact x1, x2, fun p' cv z => ?_⟩
        obtain ⟨c0, y1, y2⟩ := x3 p' cv z
        exact ⟨c0, y1, eN _ _ y2 codeO_ne⟩
    · rw [upd_ne (Nat.ne_of_gt lt), upd_ne (Nat.ne_of_gt ltP)]
      exact I.hok.fresh le
/-- lambda: b, a value -/
def tLamV (X : Cx) (T : List (Addr × Str)) (ps : Arguments) (b : Expr) (sc : Scope) : TE := fun _ H Q => Tabs T H ∧ ∀ (f c' : Addr) (H1 : Hp), ExtN H H1 → Tabs T H1 → H1 f = none → H f = none → H1 c' = some (CodeO c' (X.env.qual ++ "<lambda>")) →
  Q (.ref f) (upd H1 f (LamO f (X.env.qual ++ "<lambda>") ps b sc (cloFrom X.env.cells sc.names []) c'))
theorem pe_lamV {X : Cx} {T : List (Addr × Str)} {c P : Addr} {ps : Arguments} {b : Expr} {sc : Scope} {pos : Pos} (TB : TabB X.base X.mg c P) (hc : X.env.code = .ref c) (hm : (P, X.env.qual ++ "<lambda>") ∈ T) (hu : ∀ p ∈ T, p.1 = P → p.2 = X.env.qual ++ "<lambda>")
    (L : LamS X.env.scope sc) (hd : defaultsOf ps X.env = ([], []) := by rfl) : PE X (.Lambda ps b sc pos) (tLamV X T ps b sc) := by
  refine ⟨fun pins s σ H Q I h => ?_⟩
  obtain ⟨hT, h⟩ := h
  refine lam_new I TB hc hm hu hT hd (L.has I.ok) fun f c' pm ct H1 s1 J eN T1 hf hn le co => ?_
  exact ⟨.ref f, _, inv_know I J hn le (lamO_ok hf), rfl, h f c' H1 eN T1 hn (I.hok.fresh le) co⟩
end HL

namespace HL
open PySem PySem.Spec PyProof.Rows L2
open LamX (CodeO Tabs TabS TabB ExtN LamS codeO_ne)
/-! a lambda that stands is called -/
/-- without the cells at cs -/
def delC (H : Hp) (cs : List Addr) : Hp := fun b => if b ∈ cs then none else H b
/-- with H's cells at cs -/
def putC (H' H : Hp) (cs : List Addr) : Hp := fun b => if b ∈ cs then H b else H' b
theorem delC_in {H : Hp} {cs : List Addr} {b : Addr} (h : b ∈ cs) : delC H cs b = none := if_pos h
theorem delC_out {H : Hp} {cs : List Addr} {b : Addr} (h : b ∉ cs) : delC H cs b = H b := if_neg h
theorem putC_in {H H' : Hp} {cs : List Addr} {b : Addr} (h : b ∈ cs) : putC H' H cs b = H b := if_pos h
theorem putC_out {H H' : Hp} {cs : List Addr} {b : Addr} (h : b ∉ cs) : putC H' H cs b = H' b := if_neg h
/-- the cells cl hold ws -/
def CellsAt (H : Hp) : List (Str × Addr) → List V → Prop
  | [], [] => True
  | p :: cl, v :: ws => H p.2 = some (CellO p.2 v) ∧ CellsAt H cl ws
  | _, _ => False
theorem CellsAt.len {H : Hp} : ∀ {cl : List (Str × Addr)} {ws : List V}, CellsAt H cl ws → ws.length = cl.length
  | [], [], _ => rfl
  | _ :: _, _ :: _, h => congrArg (· + 1) h.2.len
theorem CellsAt.all {H : Hp} : ∀ {cl : List (Str × Addr)} {ws : List V}, CellsAt H cl ws → ∀ c ∈ cl.map (·.2), ∃ v, H c = some (CellO c v)
  | [], [], _, c, hc => by cases hc
  | p :: cl, v :: ws, h, c, hc => by
    rcases List.mem_cons.mp hc with e | m
    · rw [e]
      exact ⟨v, h.1⟩
    · exact h.2.all c m
theorem CellsAt.at {H : Hp} : ∀ {cl : List (Str × Addr)} {ws : List V} {i : Nat} {p : Str × Addr} {v : V}, CellsAt H cl ws → cl[i]? = some p → ws[i]? = some v → H p.2 = some (CellO p.2 v)
  | [], [], i, p, v, _, a, _ => by cases a
  | q :: cl, u :: ws, 0, p, v, h, a, b => by
    cases a
    cases b
    exact h.1
  | q :: cl, u :: ws, i + 1, p, v, h, a, b => h.2.at (i := i) a b
theorem CellsAt.mono {H H' : Hp} : ∀ {cl : List (Str × Addr)} {ws : List V}, CellsAt H cl ws → (∀ c v, H c = some (CellO c v) → H' c = some (CellO c v)) → CellsAt H' cl ws
  | [], [], _, _ => True.intro
  | _ :: _, _ :: _, h, k => ⟨k _ _ h.1, h.2.mono k⟩
theorem lookup_at : ∀ {cl : List (Str × Addr)} {i : Nat} {x : Str} {c : Addr}, (cl.map (·.1)).Nodup → cl[i]? = some (x, c) → cl.lookup x = some c
  | [], i, x, c, _, a => by cases a
  | q :: cl, 0, x, c, _, a => by
    cases a
    simp
  | (y, d) :: cl, i + 1, x, c, nd, a => by
    have nd' : y ∉ cl.map (·.1) ∧ (cl.map (·.1)).Nodup := List.nodup_cons.mp nd
    have m : x ∈ cl.map (·.1) := List.mem_map.mpr ⟨(x, c), List.mem_of_getElem? (show cl[i]? = some (x, c) from a), rfl⟩
    have ne : (x == y) = false := by
      rw [beq_eq_false_iff_ne]
      intro e
      rw [e] at m
      exact nd'.1 m
    rw [List.lookup_cons, ne]
    exact lookup_at nd'.2 a
theorem lookup_snd : ∀ {cl : List (Str × Addr)} {x : Str} {c : Addr}, cl.lookup x = some c → c ∈ cl.map (·.2) := fun {cl x c} e => List.mem_map.mpr ⟨(x, c), PySem.mem_of_lookup e, rfl⟩
theorem snd_inj : ∀ {cl : List (Str × Addr)} {x y : Str} {c : Addr}, (cl.map (·.2)).Nodup → cl.lookup x = some c → cl.lookup y = some c → x = y
  | [], x, y, c, _, a, _ => by cases a
  | (z, d) :: cl, x, y, c, nd, a, b => by
    have nd' : d ∉ cl.map (·.2) ∧ (cl.map (·.2)).Nodup := List.nodup_cons.mp nd
    rw [List.lookup_cons] at a b
    cases e1 : x == z with
    | true =>
      rw [e1] at a
      cases e2 : y == z with
      | true => rw [eq_of_beq e1, eq_of_beq e2]
      | false =>
        rw [e2] at b
        cases a
        exact absurd (lookup_snd b) nd'.1
    | false =>
      rw [e1] at a
      cases e2 : y == z with
      | true =>
        rw [e2] at b
        cases b
        exact absurd (lookup_snd a) nd'.1
      | false =>
        rw [e2] at b
        exact snd_inj nd'.2 a b
/-- what the text says of a lambda without parameters and of its cells -/
structure LamV (q : Str) (ps : Arguments) (b : Expr) (sc : Scope) (cl : List (Str × Addr)) : Prop where
  kind : sc.kind = .function
  co : sc.isCoroutine = false
  gen : sc.isGenerator = false
  own : ∀ y ∈ sc.names, y.2 ≠ .local ∧ y.2 ≠ .cell
  free : ∀ y ∈ sc.names, y.2 = .free → ∃ c, cl.lookup y.1 = some c
  bind : ∀ (pm cv ct : Value), bindArgs (PySem.W.kla_fn "<lambda>" q ps b sc cl pm cv ct) ⟨[], []⟩ = pure []
  nd1 : (cl.map (·.1)).Nodup
  nd2 : (cl.map (·.2)).Nodup
abbrev lamEnvV (q : Str) (sc : Scope) (cl : List (Str × Addr)) (L f c' : Addr) : Env := PySem.W.envX q sc L f (.ref c') cl
/-- the context of its body -/
def lamCxV (P : Program) (w : World) (K : PySem.W.Frag) (mg : Str → Option Value) (base : Heap) (A : Around) (outer : List Env) (s : Shared) (H : Hp) (E : XK) (q : Str) (sc : Scope) (cl : List (Str × Addr)) (f c' : Addr) : Cx :=
  let env := lamEnvV q sc cl s.heap.objs.size f c'
  { prog := P, w := w, K := K, mg := mg, base := base, A := A.deeper env, N := cl.map (·.1), s_0 := s, H_0 := H, env := env, outer := outer, stack := env :: outer, ex := [], fn := fun _ => false, calm := true, pn := [],
    xe := fun e s' => wpAny (model P w) (A.deeper env) (leaving env e) (fun _ s'' => L2.CX P w outer H s E e s'') (fun e' s'' => L2.CX P w outer H s E e' s'') s' }
theorem hok_del {P : Program} {w : World} {H : Hp} {h : Heap} {cs : List Addr} (hok : HOk P w H h) (hc : ∀ c ∈ cs, ∃ v, H c = some (CellO c v)) : HOk P w (delC H cs) h := fun b o e => by
  have out : ∀ d u, (∀ v, u ≠ CellO d v) → H d = some u → d ∉ cs := fun d u ne z m => by
    obtain ⟨v, y⟩ := hc d m
    rw [y] at z
    cases z
    exact ne v rfl
  by_cases hb : b ∈ cs
  · rw [delC_in hb] at e
    cases e
  · rw [delC_out hb] at e
    exact (hok b o e).stay (fun d v _ z => z) (fun d z => by rw [delC_out (out d _ (fun v y => ext_own y.symm) z)]; exact z) (fun d xs z => by rw [delC_out (out d _ (fun v y => ext_tup y.symm) z)]; exact z)
theorem hok_put {P : Program} {w : World} {H H' : Hp} {h h' : Heap} {cs : List Addr} (hok : HOk P w H h) (hok' : HOk P w H' h') (hc : ∀ c ∈ cs, ∃ v, H c = some (CellO c v)) (hn : ∀ c ∈ cs, H' c = none) (hk : ∀ c ∈ cs, ∀ v, h.IsCell c v → h'.IsCell c v) : HOk P w (putC H' H cs) h' := fun b o e => by
  by_cases hb : b ∈ cs
  · rw [putC_in hb] at e
    obtain ⟨v, y⟩ := hc b hb
    rw [y] at e
    cases e
    obtain ⟨u, r, z⟩ := cellO_at hok y
    exact cellO_ok r (hk b hb _ z)
  · rw [putC_out hb] at e
    have out : ∀ d u, H' d = some u → d ∉ cs := fun d u z m => by
      rw [hn d m] at z
      cases z
    exact (hok' b o e).stay (fun d v _ z => z) (fun d z => by rw [putC_out (out d _ z)]; exact z) (fun d xs z => by rw [putC_out (out d _ z)]; exact z)
section
variable {P : Program} {w : World} {H H' : Hp} {s s' : Shared} {outer : List Env} {cs : List Addr}
theorem un_put {h h' : Heap} {fs : List Addr} (u : Un fs [] (delC H cs) H' h h') (hc : ∀ c ∈ cs, ∃ v, H c = some (CellO c v)) : Un fs [] H (putC H' H cs) h h' := by
  have nn : ∀ {b : Addr}, H b = none → b ∉ cs ∧ delC H cs b = none := fun {b} n => by
    have nb : b ∉ cs := fun m => by
      obtain ⟨v, y⟩ := hc b m
      rw [y] at n
      cases n
    exact ⟨nb, by rw [delC_out nb]; exact n⟩
  have so : ∀ {b : Addr} {o : HO}, (∀ φ, o ≠ .ext φ) → H b = some o → b ∉ cs ∧ delC H cs b = some o := fun {b o} ne e => by
    have nb : b ∉ cs := fun m => by
      obtain ⟨v, y⟩ := hc b m
      rw [y] at e
      cases e
      exact ne _ rfl
    exact ⟨nb, by rw [delC_out nb]; exact e⟩
  refine ⟨fun b o e n => u.keep b o e (nn n).2, fun b o e n => u.slot b o e (nn n).2, fun b o e n x => ?_, u.there, fun b xs e => ?_, fun b o x e => ?_, fun b ps e => ?_⟩
  · rw [putC_out (nn n).1]
    exact u.free b o e (nn n).2 x
  · obtain ⟨a, z⟩ := so (fun φ y => by cases y) e
    rw [putC_out a]
    exact u.tups b xs z
  · obtain ⟨a, z⟩ := so (fun φ y => by cases y) e
    rw [putC_out a]
    exact u.frzs b o x z
  · obtain ⟨a, z⟩ := so (fun φ y => by cases y) e
    rw [putC_out a]
    exact u.tbls b ps z
theorem ce_put {Q : VK} {u : Value} (hok : HOk P w H s.heap) (hc : ∀ c ∈ cs, ∃ v, H c = some (CellO c v)) (h : CE outer P w (delC H cs) s (fun v H' => (∀ c ∈ cs, H' c = none) → Q v (putC H' H cs)) u s') : CE outer P w H s Q u s' := by
  obtain ⟨v, H', os, bare, un, hok', r, q⟩ := h
  have there : ∀ c ∈ cs, ∃ o, s.heap.get? c = some o := fun c m => by
    obtain ⟨v, y⟩ := hc c m
    obtain ⟨_, _, o, ho, _⟩ := cellO_at hok y
    exact ⟨o, ho⟩
  have gone : ∀ c ∈ cs, H' c = none := fun c m => by
    obtain ⟨o, ho⟩ := there c m
    exact un.free c o ho (delC_in m) (by simp)
  refine ⟨v, _, os, bare, un_put un hc, hok_put hok hok' hc gone (fun c m v ⟨o, ho, hd⟩ => ?_), r, q gone⟩
  · obtain ⟨sl, z⟩ := un.any ho (delC_in m) (by simp)
    exact ⟨_, z, hd⟩
theorem cx_put {E : XK} {u : Value} (hok : HOk P w H s.heap) (frf : ∀ b ∈ frs outer, H b = none) (hc : ∀ c ∈ cs, ∃ v, H c = some (CellO c v)) (h : L2.CX P w outer (delC H cs) s (fun cls d H' => (∀ c ∈ cs, H' c = none) → E cls d (putC H' H cs)) u s') : L2.CX P w outer H s E u s' := by
  obtain ⟨a, B, H', cls, d, e, fl, hok', ub, na, os, ag, q⟩ := h
  have notF : ∀ c ∈ cs, c ∉ frs outer := fun c m z => by
    obtain ⟨v, y⟩ := hc c m
    rw [frf c z] at y
    cases y
  have there : ∀ c ∈ cs, ∃ o, s.heap.get? c = some o := fun c m => by
    obtain ⟨v, y⟩ := hc c m
    obtain ⟨_, _, o, ho, _⟩ := cellO_at hok y
    exact ⟨o, ho⟩
  have inB : ∀ c ∈ cs, ∀ o, s.heap.get? c = some o → B.get? c = some o := fun c m o ho => ub.keep c o ho (delC_in m) (notF c m)
  have nn : ∀ {b : Addr}, H b = none → b ∉ cs ∧ delC H cs b = none := fun {b} n => by
    have nb : b ∉ cs := fun m => by
      obtain ⟨v, y⟩ := hc b m
      rw [y] at n
      cases n
    exact ⟨nb, by rw [delC_out nb]; exact n⟩
  have so : ∀ {b : Addr} {o : HO}, (∀ φ, o ≠ .ext φ) → H b = some o → b ∉ cs ∧ delC H cs b = some o := fun {b o} ne e => by
    have nb : b ∉ cs := fun m => by
      obtain ⟨v, y⟩ := hc b m
      rw [y] at e
      cases e
      exact ne _ rfl
    exact ⟨nb, by rw [delC_out nb]; exact e⟩
  have na2 : putC H' H cs a = none := by
    by_cases m : a ∈ cs
    · obtain ⟨o, ho⟩ := there a m
      obtain ⟨_, _, _, _, x⟩ := id fl
      have z := inB a m o ho
      have y := fl.2.1
      rw [z] at y
      cases y
    · rw [putC_out m]
      exact na
  have gone : ∀ c ∈ cs, H' c = none := fun c m => by
    obtain ⟨o, ho⟩ := there c m
    exact ub.free c o ho (delC_in m)
  refine ⟨a, B, _, cls, d, e, fl, hok_put hok hok' hc gone (fun c m v ⟨o, ho, hd⟩ => ⟨o, inB c m o ho, hd⟩), ⟨fun b o x n => ub.keep b o x (nn n).2, ub.slot, fun b o x n => ?_, ub.there, fun b xs x => ?_, fun b o xs x => ?_, fun b ps x => ?_⟩, na2, os, ag, q gone⟩
  · rw [putC_out (nn n).1]
    exact ub.free b o x (nn n).2
  · obtain ⟨y, z⟩ := so (fun φ y => by cases y) x
    rw [putC_out y]
    exact ub.tups b xs z
  · obtain ⟨y, z⟩ := so (fun φ y => by cases y) x
    rw [putC_out y]
    exact ub.frzs b o xs z
  · obtain ⟨y, z⟩ := so (fun φ y => by cases y) x
    rw [putC_out y]
    exact ub.tbls b ps z
end
theorem lamV_start {P : Program} {w : World} {K : PySem.W.Frag} {mg : Str → Option Value} {base : Heap} {A : Around} {outer : List Env} {s : Shared} {H : Hp} {E : XK} {q : Str} {ps : Arguments} {b : Expr} {sc : Scope} {cl : List (Str × Addr)} {ws : List V} {f c' : Addr} {h1 : Heap} {tk : Nat}
    (e0 : Env0 P w K mg base A outer s H) (hd : A.handled = none) (L : LamV q ps b sc cl) (hc : CellsAt H cl ws) (hns : h1.Ns s.heap.objs.size fun y => ([] : List (Str × Value)).reverse.lookup y) (kp : ∀ b o, s.heap.get? b = some o → h1.get? b = some o) :
    Inv (lamCxV P w K mg base A outer s (delC H (cl.map (·.2))) E q sc cl f c') [] (ws.map some) (delC H (cl.map (·.2))) { s with heap := h1, toks := tk } := by
  have cells := hc.all
  have dn : ∀ {b : Addr}, H b = none → delC H (cl.map (·.2)) b = none := fun {b} n => by
    by_cases m : b ∈ cl.map (·.2)
    · exact delC_in m
    · rw [delC_out m]
      exact n
  have isC : ∀ {c : Addr}, c ∈ cl.map (·.2) → ∃ v, h1.IsCell c v := fun {c} m => by
    obtain ⟨v, y⟩ := cells c m
    obtain ⟨u, _, o, ho, hd⟩ := cellO_at e0.hok y
    exact ⟨_, o, kp _ _ ho, hd⟩
  refine ⟨⟨e0.mod, L.kind, rfl, rfl, Nat.le_refl _, fun y z c e1 e2 => snd_inj L.nd2 e1 e2, fun y hy => ?_, fun y c z _ => ?_, fun _ => hd, Around.frames_deeper e0.frames, .inr ⟨rfl, rfl⟩, fun b z => ?_, fun b o e => ⟨(e0.bs b o e).1, dn (e0.bs b o e).2⟩, e0.bsz, fun b o e z => ?_, fun b z => ?_, e0.funs, fun b z => dn (e0.frf b z)⟩,
    rfl, e0.bare, Un.kept kp, ⟨_, hns, fun i y v e1 e2 e3 => ?_⟩, fun y c e => isC (lookup_snd e), dn (e0.hok.fresh (Nat.le_refl _)), fun y c e => delC_in (lookup_snd e), fun z hz => ?_, (hok_del e0.hok cells).kept kp, ?_⟩
  · have hy : sc.names.lookup y = some .cell ∨ sc.names.lookup y = some .free := hy
    rcases hy with hy | hy
    · exact absurd rfl (L.own _ (PySem.mem_of_lookup hy)).2
    · exact L.free _ (PySem.mem_of_lookup hy) rfl
  · have z : false = true := z
    cases z
  · cases (show b ∈ ([] : List Addr) from z)
  · cases (show b ∈ ([] : List Addr) from z)
  · cases (show b ∈ ([] : List Addr) from z)
  · have e3 : Vis sc y := e3
    rcases e3 with k | k | k
    · exact absurd rfl (L.own _ (PySem.mem_of_lookup k)).1
    · exact absurd rfl (L.own _ (PySem.mem_of_lookup k)).2
    · have e1 : (cl.map (·.1))[i]? = some y := e1
      rw [List.getElem?_map] at e1 e2
      cases a : cl[i]? with
      | none => rw [a] at e1; cases e1
      | some p =>
        rw [a] at e1
        cases a2 : ws[i]? with
        | none => rw [a2] at e2; cases e2
        | some v2 =>
          rw [a2] at e2
          cases e2
          obtain ⟨x, c⟩ := p
          cases e1
          obtain ⟨u, r, o, ho, hd⟩ := cellO_at e0.hok (hc.at a a2)
          exact ⟨u, r, .inr ⟨.inr k, c, lookup_at L.nd1 a, o, kp _ _ ho, hd⟩⟩
  · cases (show z ∈ ([] : List (Addr × Obj)) from hz)
  · show (ws.map some).length = (cl.map (·.1)).length
    rw [List.length_map, List.length_map]
    exact hc.len
/-- x(), x a local name that holds a lambda -/
def tAskV (P : Program) (w : World) (K : PySem.W.Frag) (mg : Str → Option Value) (base : Heap) (k i : Nat) (E : XK) : TE := fun σ H Q => ∃ (f c' : Addr) (q : Str) (ps : Arguments) (b : Expr) (sc : Scope) (cl : List (Str × Addr)) (ws : List V) (tb : XK → TE),
  σ[i]? = some (some (.ref f)) ∧ H f = some (LamO f q ps b sc cl c') ∧ H c' = some (CodeO c' q) ∧ LamV q ps b sc cl ∧ CellsAt H cl ws ∧
  (∀ (A : Around) (o : List Env) (s : Shared) (H : Hp) (E : XK) (f c' : Addr), Room k (A.deeper (lamEnvV q sc cl s.heap.objs.size f c')) → PE (lamCxV P w K mg base A o s H E q sc cl f c') b (tb E)) ∧
  tb (fun cls d H' => (∀ c ∈ cl.map (·.2), H' c = none) → E cls d (putC H' H (cl.map (·.2)))) (ws.map some) (delC H (cl.map (·.2))) (fun v H' => (∀ c ∈ cl.map (·.2), H' c = none) → Q v (putC H' H (cl.map (·.2))))
theorem pe_askV {X : Cx} {a : Str} {i k : Nat} {E : XK} {p1 p2 : Pos} (hN : X.N[i]? = some a) (hv : Vis X.env.scope a) (hr : Room (k + 1) X.A) (hx : Passes (L2.CX X.prog X.w) X E) (d1 : (a == ("__debug__" : Str)) = false := by decide) (d2 : (a == ("__classdict__" : Str)) = false := by decide) :
    PE X (.Call (.Name a p1) [] [] p2) (tAskV X.prog X.w X.K X.mg X.base k i E) := by
  refine ⟨fun pins s σ H Q I h => ?_⟩
  obtain ⟨f, c', q, ps, b, sc, cl, ws, tb, h1, hf, hc, L, hcl, hb, ht⟩ := h
  have nm := (pe_var (pos := p1) (i := i) hN hv d1 d2).run pins s σ H (fun v H1 => v = .ref f ∧ H1 = H) I ⟨_, h1, rfl, rfl⟩
  refine wpAny_Call_Name_kw (thn nm ?_)
  rintro u s1 ⟨v, H1, I1, r1, ⟨ev, eh⟩⟩
  subst ev
  rw [eh] at I1
  obtain rfl : u = Value.ref f := r1
  obtain ⟨pm, ct, of⟩ := lamO_at I1.hok hf
  have go : codeAny (model X.prog X.w) X.A (.call (.ref f) ⟨[], []⟩) (CR (L2.CX X.prog X.w) X.stack X.prog X.w (delC H (cl.map (·.2))) s1 (fun v H' => (∀ c ∈ cl.map (·.2), H' c = none) → Q v (putC H' H (cl.map (·.2)))) (fun cls d H' => (∀ c ∈ cl.map (·.2), H' c = none) → E cls d (putC H' H (cl.map (·.2))))) s1 := by
    obtain ⟨⟨oc, vs, t, ho, hd, hc2⟩, _, _⟩ := I1.hok c' _ hc
    refine PySem.W.kla_callFunE hr.depth of rfl L.co L.gen rfl ⟨c', oc, vs, t, rfl, ho, hd, hc2⟩ ?_
    rw [L.bind]
    refine wpAny_pure (wpAny_newFunctionEnv (fun y hy => (L.own y hy).2) (fun y hy => absurd hy (by simp)) (fun hh hns hsb => ⟨I1.nolimit.fresh _ hsb, ?_⟩) L.kind)
    show codeAny _ _ (.expr b (lamEnvV q sc cl s1.heap.objs.size f c')) _ _
    have st := lamV_start (E := fun cls d H' => (∀ c ∈ cl.map (·.2), H' c = none) → E cls d (putC H' H (cl.map (·.2)))) (f := f) (c' := c') (tk := s1.toks + ([] : List (Str × Value)).length) I1.env0 hr.hd L hcl hns (fun b' o' e' => hsb.extBut b' o' (Nat.ne_of_lt (Heap.lt_size e')) (Heap.get?_push_of_some _ e'))
    refine PySem.W.kla_codeExpr (wpAny_mono ((hb _ _ s1 _ _ f c' (hr.deeper _)).run [] _ _ _ _ st ht) ?_ (fun _ _ x => x))
    rintro v' s' ⟨w', H', J', rv, qv⟩
    exact ⟨w', H', J'.os, J'.bare, J'.base, J'.hok, rv, qv⟩
  refine PySem.W.callWith_F0 ⟨_, _, _, _, of⟩ (wpAny_call (codeAny_mono go ?_))
  intro r s' hq
  cases r with
  | error e => exact hx pins σ H s1 e s' I1 (cx_put I1.hok I1.stkFree hcl.all hq)
  | ok fl =>
    cases fl with
    | ret u => exact I1.after (ce_put I1.hok hcl.all hq)
    | next => cases hq
    | brk => cases hq
    | cont => cases hq
/-! ### a def whose lambdas live on -/
/-- statements behind which the def ends with `return e`: what its slots hold then is told too -/
def PSP (X : Cx) (l : List Stmt) (t : (V → L2.St → Hp → Prop) → L2.St → Hp → Prop) : Prop := ∀ (pins : List (Addr × Obj)) (s : Shared) (σ : L2.St) (H : Hp) (R : V → L2.St → Hp → Prop), Inv X pins σ H s → t R σ H →
  wpAny (model X.prog X.w) X.A (execs l X.env) (fun fl s' => ∃ (u : Value) (v : V) (σ' : L2.St) (H' : Hp), fl = .ret u ∧ Inv X pins σ' H' s' ∧ RelV v u ∧ R v σ' H') X.xe s
section
variable {X : Cx} {st : Stmt} {rest : List Stmt}
theorem psp_cons {t : TS} {u : (V → L2.St → Hp → Prop) → L2.St → Hp → Prop} (h1 : PS X st t) (h2 : PSP X rest u) : PSP X (st :: rest) (fun R σ H => t { nx := fun σ' H' => u R σ' H', rt := fun _ _ => False } σ H) := fun pins s σ H R I h =>
  wpAny_execs_cons (thn (h1.run pins s σ H _ I h) fun f s1 q => by
    cases f with
    | next =>
      obtain ⟨σ', H', I', q⟩ := q
      exact h2 pins s1 σ' H' R I' q
    | ret v =>
      obtain ⟨_, _, _, _, _, q⟩ := q
      cases q
    | brk =>
      obtain ⟨_, _, _, q⟩ := q
      cases q
    | cont =>
      obtain ⟨_, _, _, q⟩ := q
      cases q)
theorem psp_ret {e : Expr} {te : TE} {pos : Pos} (he : PE X e te) : PSP X [.Return (some e) pos] (fun R σ H => te σ H fun v H' => R v σ H') := fun pins s σ H R I h =>
  wpAny_execs_cons (wpAny_Return_some (thn (he.run pins s σ H _ I h) fun u s1 ⟨v, H1, I1, r1, q1⟩ => ⟨u, v, σ, H1, rfl, I1, r1, q1⟩))
end
theorem fn_pub {P : Program} {w : World} {K : PySem.W.Frag} {mg : Str → Option Value} {base : Heap} {CX : CXT} {k j : Nat} {f : Addr} {name qual nm : Str} {params : Arguments} {body : List Stmt} {sc : Scope} {dV kV doc pm cdv ct oc : Value} {an od : Option Addr} {osl : Array (Option Value)} {N ps : List Str} {sp : Sp}
    (lk : K.lookup f = some ⟨oc, od, .func (PySem.W.fnOf name qual params body sc dV kV doc pm an cdv ct), osl⟩) (hcd : PySem.W.codeIn K cdv qual = true) (S : FnScope N ps sc) (hj : N[j]? = some nm) (hk : sc.names.lookup nm = some .cell)
    (len : ∀ vs H Q E, sp vs H Q E → vs.length = ps.length)
    (hbody : ∀ (A : Around) (outer : List Env) (s : Shared) (H : Hp) (vs : List V) (Q : VK) (E : XK) (c : Addr), Room k (A.deeper (envOfC qual sc s.heap.objs.size f cdv)) → (cellsFrom (s.heap.objs.size + 1) sc.names []).lookup nm = some c → sp vs H Q E →
      ∃ t, PSP (cxOf CX P w K mg base N qual sc f cdv A outer s H E) body t ∧ t (fun v σ H' => ∃ x, σ[j]? = some (some x) ∧ (H' c = none → Q v (upd H' c (CellO c x)))) (L2.start N vs) H) :
    FnOk P w K mg base CX (k + 1) f (PySem.W.fnOf name qual params body sc dV kV doc pm an cdv ct) ps sp := by
  refine ⟨len, fun A outer s H args us vs Q E hr e0 hb r hsp => ?_⟩
  have KX : K.In s.heap := e0.mod.kin.keeps fun b o e => (e0.bs b o e).1
  have lim : s.heap.NoLimit := e0.mod.nolimit.keeps fun b o e => (e0.bs b o e).1
  have bind : ∀ y ∈ ps.zip us, sc.names.lookup y.1 = some .local ∨ (sc.names.lookup y.1 = some .cell ∧ ((cellsFrom (s.heap.objs.size + 1) sc.names []).lookup y.1).isSome = true) := fun y hy => by
    rcases S.par y.1 (List.of_mem_zip (show (y.1, y.2) ∈ ps.zip us from hy)).1 with q | q
    · exact .inl q
    · exact .inr ⟨q, PySem.W.cellsFrom_some _ _ _ (.inl q)⟩
  refine codeAny_call_function hr.depth (KX _ _ lk) rfl S.co S.gen rfl (PySem.W.codeRec_of KX hcd) (hb _ _ _ _ ?_)
  refine wpAny_newFunctionEnv_cells S.kind bind fun env he s1 x => ?_
  subst he
  refine ⟨lim.keeps x.toInCall.keep, codeAny_func ?_⟩
  obtain ⟨c, ec⟩ := cell_has (n := s.heap.objs.size + 1) hk
  obtain ⟨t, ht, hq⟩ := hbody A outer s H vs Q E c (hr.deeper _) ec hsp
  have I : Inv (cxOf CX P w K mg base N qual sc f cdv A outer s H E) [] (L2.start N vs) H s1 := inv_start S hr.hd e0 (len _ _ _ _ hsp) r x
  refine wpAny_mono (ht [] s1 _ H _ I hq) (fun fl s' hs => ?_) fun e s' hs => hs
  obtain ⟨u, v, σ', H', ef, J, rv, z, hz, q⟩ := hs
  subst ef
  have nc : H' c = none := J.freeC nm c ec
  obtain ⟨m, hm, lk2⟩ := J.loc
  obtain ⟨uz, rz, look⟩ := lk2 j nm z hj hz (.inr (.inl hk))
  have isC : s'.heap.IsCell c (some uz) := by
    rcases look with ⟨k1, _⟩ | ⟨_, c1, e1, z1⟩
    · have k1 : sc.names.lookup nm = some .local := k1
      rw [hk] at k1
      cases k1
    · have e1 : (cellsFrom (s.heap.objs.size + 1) sc.names []).lookup nm = some c1 := e1
      rw [ec] at e1
      cases e1
      exact z1
  have new : s.heap.objs.size ≤ c := J.ok.cab nm c rfl ec
  have old : ∀ b o, s.heap.get? b = some o → b ≠ c := fun b o e y => by
    rw [y] at e
    exact Nat.lt_irrefl _ (Nat.lt_of_lt_of_le (Heap.lt_size e) new)
  have sm : ∀ b o, H' b = some o → b ≠ c := fun b o e y => by
    rw [y, nc] at e
    cases e
  have un : Un (frs outer) [] H (upd H' c (CellO c z)) s.heap s'.heap := by
    have b0 : Un (frs outer) [] H H' s.heap s'.heap := J.base
    refine ⟨b0.keep, b0.slot, fun b o e n y => ?_, b0.there, fun b xs e => ?_, fun b o y e => ?_, fun b tb e => ?_⟩
    · rw [upd_ne (old b o e)]
      exact b0.free b o e n y
    · have y := b0.tups b xs e
      rw [upd_ne (sm _ _ y)]
      exact y
    · have y := b0.frzs b o y e
      rw [upd_ne (sm _ _ y)]
      exact y
    · obtain ⟨more, y⟩ := b0.tbls b tb e
      exact ⟨more, by rw [upd_ne (sm _ _ y)]; exact y⟩
  exact ⟨v, upd H' c (CellO c z), J.os, J.bare, un, hok_ext J.hok nc (cellO_ok rz isC), rv, q nc⟩
end HL

namespace HL
open PySem PySem.Spec PyProof.Rows L2
/-! x(e, .., *y), x a local name that holds a def of the module -/
def tCallLS (i : Nat) (f : Addr) (sp : Sp) (E : XK) (t : TA) : TE := fun σ H Q => σ[i]? = some (some (.ref f)) ∧ t σ H fun vs H1 => sp vs H1 Q E
theorem pe_callLS {X : Cx} {CX : CXT} {k i : Nat} {f : Addr} {fd : FuncData} {ps : List Str} {sp : Sp} {E : XK} {x : Str} {p pos : Pos} {e : Expr} {es : List Expr} {t : TA} (F : FnOk X.prog X.w X.K X.mg X.base CX k f fd ps sp) (hr : Room k X.A) (hN : X.N[i]? = some x) (hv : Vis X.env.scope x)
    (hk : PySem.W.keepIn X.K (.ref f) = true) (hb : Binds X.K fd ps []) (hx : Passes CX X E) (ha : PA X (e :: es) t) (hdb : (x == ("__debug__" : Str)) = false := by decide) (hcd : (x == ("__classdict__" : Str)) = false := by decide)
    (he : starEach (e :: es) X.env = (false, eval e X.env) :: starEach es X.env := by rfl) (hst : (backTo pos (starEach es X.env)).any (·.1) = true := by rfl) :
    PE X (.Call (.Name x p) (e :: es) [] pos) (tCallLS i f sp E t) := by
  refine ⟨fun pins s σ H Q I h => ?_⟩
  obtain ⟨hs, ht⟩ := h
  have nm := (pe_var (pos := p) hN hv hdb hcd).run pins s σ H (fun v H1 => v = .ref f ∧ H1 = H) I ⟨_, hs, rfl, rfl⟩
  refine wpAny_Call_Name_kw (thn nm ?_)
  rintro u s1 ⟨v, H1, I1, r1, ev, eh⟩
  subst ev eh
  obtain rfl : u = Value.ref f := r1
  refine PySem.W.callWith_S2 (h₀ := X.base) I.ok.mod.kin hk (thn (ha.run pos pins s1 σ _ _ I1 ht) fun us s2 ⟨vs, H2, I2, r, q⟩ => ⟨I2.kIn, ?_⟩) he hst
  exact run_fn (dvs := []) F hr hb .nil hx I2 r (by rw [List.append_nil]; exact q)
/-- .. that holds one of several -/
structure HeldX (P : Program) (w : World) (K : PySem.W.Frag) (mg : Str → Option Value) (base : Heap) (k : Nat) (f : Addr) (sp : Sp) : Prop where
  ex : ∃ (fd : FuncData) (ps : List Str), FnOk P w K mg base (L2.CX P w) k f fd ps sp ∧ PySem.W.keepIn K (.ref f) = true ∧ Binds K fd ps []
def tCallAS (i : Nat) (S : Addr → Option Sp) (E : XK) (t : TA) : TE := fun σ H Q => ∃ f sp, σ[i]? = some (some (.ref f)) ∧ S f = some sp ∧ t σ H fun vs H1 => sp vs H1 Q E
theorem pe_callAS {X : Cx} {k i : Nat} {S : Addr → Option Sp} {E : XK} {x : Str} {p pos : Pos} {e : Expr} {es : List Expr} {t : TA} (Al : ∀ f sp, S f = some sp → HeldX X.prog X.w X.K X.mg X.base k f sp) (hr : Room k X.A) (hN : X.N[i]? = some x) (hv : Vis X.env.scope x)
    (hx : Passes (L2.CX X.prog X.w) X E) (ha : PA X (e :: es) t) (hdb : (x == ("__debug__" : Str)) = false := by decide) (hcd : (x == ("__classdict__" : Str)) = false := by decide)
    (he : starEach (e :: es) X.env = (false, eval e X.env) :: starEach es X.env := by rfl) (hst : (backTo pos (starEach es X.env)).any (·.1) = true := by rfl) :
    PE X (.Call (.Name x p) (e :: es) [] pos) (tCallAS i S E t) := by
  refine ⟨fun pins s σ H Q I h => ?_⟩
  obtain ⟨f, sp, hs, hS, ht⟩ := h
  obtain ⟨fd, ps, F, hk, hb⟩ := (Al f sp hS).ex
  exact (pe_callLS (i := i) (f := f) (sp := sp) F hr hN hv hk hb hx ha hdb hcd he hst).run pins s σ H Q I ⟨hs, ht⟩
end HL

/-! own exceptions raised where nothing is handled (their context is None); `except (A, B):` whose suite raises -/
namespace H33
open PySem PySem.Spec PyProof.Rows L2 HotX L2H
section
variable {X : Cx}
theorem pmkN_oex {e : Expr} {es : List Expr} {ta : TA} {p pos : Pos} {CX : CXT} {x : Str} {C fI : Addr} {k : Nat} {fd : FuncData} {ps : List Str} {sp : Sp} (T : OexC X.K C) (iC : PySem.W.findIn X.K (.ref C) "__init__" = some (some (.ref fI))) (tI : PySem.W.typeIn X.K (.ref fI) = some (.type "function"))
    (F1 : FnOk X.prog X.w X.K X.mg X.base CX k fI fd ps sp) (hr : Room (k + 1) X.A) (hb : Binds X.K fd ps []) (hx : Passes CX X (fun _ _ _ => False)) (hg : Gl X x) (hm : X.mg x = some (.ref C)) (ha : PA X (e :: es) ta)
    (hdb : (x == ("__debug__" : Str)) = false := by decide) (he : starEach (e :: es) X.env = (false, eval e X.env) :: starEach es X.env := by rfl) (hpl : (backTo pos (starEach es X.env)).any (·.1) = false := by rfl) :
    L2N.PMk X (.Call (.Name x p) (e :: es) [] pos) (tMkO C sp [] ta) := by
  intro pins s σ H Q I h
  obtain ⟨nm, q, N, bs, bm, sn, sub, ab, col, dd, k0, k1, k2, k3, k5, hC, hbm⟩ := T.cls
  refine wpAny_Call_Name_kw (ld_glob I hg hm ?_ hdb)
  refine PySem.W.callWith_K (h₀ := X.base) I.ok.mod.kin T.kC (thn (ha.run pos pins s σ H _ I h) fun us s1 ⟨vs, H1, I1, r1, hz, q1⟩ => ⟨I1.kIn, ?_⟩) he hpl
  show wpAny _ _ (call (.ref C) us) _ _ _
  obtain ⟨hp, g, dr, tk, os⟩ := s1
  have hsz : hp.objs.size ≤ hp.objs.size + 1 := Nat.le_succ _
  have hn : H1 (hp.objs.size + 1) = none := I1.hok.fresh hsz
  have hq := q1 (hp.objs.size + 1) hn
  rw [List.append_nil] at hq
  have kk : ∀ b o, hp.get? b = some o → ((hp.push (PySem.W.kdv_tup us)).push (PySem.HandSPX.excO C hp.objs.size)).get? b = some o := fun b o e => Heap.get?_push_of_some _ (Heap.get?_push_of_some _ e)
  have hget : ((hp.push (PySem.W.kdv_tup us)).push (PySem.HandSPX.excO C hp.objs.size)).get? (hp.objs.size + 1) = some (PySem.HandSPX.excO C hp.objs.size) := by heap_get
  have I2 : Inv X pins σ (upd H1 (hp.objs.size + 1) (exo (hp.objs.size + 1) C none)) ⟨(hp.push (PySem.W.kdv_tup us)).push (PySem.HandSPX.excO C hp.objs.size), g, dr, tk, os⟩ :=
    I1.laid (t' := tk) (a := hp.objs.size + 1) (o := exo (hp.objs.size + 1) C none) (h' := (hp.push (PySem.W.kdv_tup us)).push (PySem.HandSPX.excO C hp.objs.size)) kk hsz (exo_ok hget)
  have r2 : Vals (V.ref (hp.objs.size + 1) :: vs) (Value.ref (hp.objs.size + 1) :: us) := .cons rfl r1
  have hl : (Value.ref (hp.objs.size + 1) :: us ++ []).length = ps.length := by
    have e := r2.length
    rw [F1.len _ _ _ _ hq] at e
    rw [List.append_nil]
    exact e.symm
  have hus : us.length ≤ sizeLine := by
    rw [← Paired.length r1, sizeLine_eq]
    omega
  have b2 := hb _ (Value.ref (hp.objs.size + 1) :: us) I2.kIn hl
  rw [List.append_nil] at b2
  refine wpAny_call (PySem.HandSPX.call_own F.excBase_ValueError (fun Y => PySem.HandSPX.refsVE_contains Y bm hbm) (I1.kIn _ _ hC) (PySem.W.looks_findIn I1.kIn iC) (fun self => PySem.W.bind_fn I1.kIn self tI) hus
    (codeAny_mono (F1.run _ X.stack _ _ ⟨Value.ref (hp.objs.size + 1) :: us, []⟩ (Value.ref (hp.objs.size + 1) :: us) _ _ (fun _ _ _ => False) (hr.make C us []) (I2.env0.make C us []) b2 r2 hq) fun r s' hq' => ?_))
  cases r with
  | error er => exact hx pins σ _ _ er s' I2 hq'
  | ok fl =>
    cases fl with
    | ret u =>
      obtain ⟨v, H2, os2, bare2, un2, hok2, rv, ev, d, fs, ea, ed, hd1, q2⟩ := hq'
      subst ev
      obtain ⟨h2, g2, d2, t2, os'⟩ := s'
      obtain ⟨t0, G, J, kG, ge, hoe, na⟩ := mk_end0 (d2 := d2) (t2 := t2) I1 hsz kk un2 hok2 os2 bare2 ea ed hd1
      exact ⟨rv, hp.objs.size + 1, _, _, ⟨G, g2, d2, t2, os'⟩, _, .ref C, some d, rfl, J, kG, ge, hoe, ⟨rfl, rfl, fun vs hv => by
        cases hv
        rfl⟩, rfl, rfl, na, rfl, bare2, raises_own T.exC T.tyC, q2⟩
    | next => exact False.elim hq'
    | brk => exact False.elim hq'
    | cont => exact False.elim hq'
end
theorem flyZ_keeps {B h h' : Heap} {l : List Env} {e : Addr} {Z : Obj → Prop} (R : HandSPX.FlyingZ B l e Z h) (k : ∀ b o, h.get? b = some o → h'.get? b = some o) : HandSPX.FlyingZ B l e Z h' := by
  obtain ⟨f1, f2, f3, oe, ws, T, oT, ts, he, hc, hd, h1, hn, hne, hT, hdT, h3⟩ := R
  exact ⟨fun b o z => k b o (f1 b o z), f2, f3.of_keeps fun b o z _ => ⟨o, k b o z, rfl⟩, oe, ws, T, oT, ts, k _ _ he, hc, hd, h1, hn, hne, k _ _ hT, hdT, h3⟩
/-- what `except (A, B):` wishes of an exception of the body -/
def wTup (K : PySem.W.Frag) (c1 c2 : Value) (ts : Addr → Value → Option Addr → TS) (Wout : WX) (D : Ends) : WX :=
  fun cls d σ H => ∃ b, PySem.W.exmAny K cls [c1, c2] = some b ∧ (b = true → ∀ a, H a = none → ts a cls d D σ H) ∧ (b = false → Wout cls d σ H)
section
variable {X : Cx} {x1 x2 : Str} {c1 c2 : Value} {body suite : List Stmt} {b₀ : Stmt} {n1 n2 tpos pos pos' : Pos} {kk : Nat} {tb : WX → TS} {ts : Addr → Value → Option Addr → TS} {Wout : WX}
theorem ps_try_tupX (hs : X.stack = X.env :: X.outer) (hf : X.env.frame = some X.env.locals) (hc1 : Names X x1 c1) (hc2 : Names X x2 c2) (hpa : ∀ hd : Option Value, PassesOwnAt (model X.prog X.w) (X.A.mark hd) X.A X.env X.xe) (tk : L2.Takes X Wout)
    (hb : ∀ (W : WX) (pn : List (Addr × Obj)) (xe : Value → Shared → Prop), L2N.Takes (X.tr pn xe) W → PassesOwn (model X.prog X.w) X.A X.env xe → PSs (X.tr pn xe) body (tb W))
    (hsu : ∀ (a : Addr) (oe : Obj) (cls : Value) (d : Option Addr) (pn : List (Addr × Obj)), L2N.Zn cls d oe → (∃ vs, oe.data = .fields vs) → L2.Takes (suiteX X a ((a, oe) :: pn)) Wout → HotC (suiteX X a ((a, oe) :: pn)) →
      PSs (suiteX X a ((a, oe) :: pn)) (b₀ :: suite) (ts a cls d)) :
    PS X (.Try body [.ExceptHandler (some (.Tuple [.Name x1 n1, .Name x2 n2] kk tpos)) none (b₀ :: suite) pos'] [] [] pos) (fun D σ H => tb (wTup X.K c1 c2 ts Wout D) D σ H) := by
  refine ⟨fun pins s σ H D I h => ?_⟩
  have ok := I.ok
  have hfr : X.A.frames = some (X.env :: X.outer) := by rw [ok.frames, hs]
  have notFr : ∀ {B h : Heap} {a : Addr} {o : Obj} {vs : Array Value}, h.FunFrames B (X.env :: X.outer) → h.get? a = some o → o.data = .fields vs → a ∉ frs (X.env :: X.outer) := fun {B h a o vs} ff e dd hm => by
    obtain ⟨_, o', e', hnf⟩ := ff.mem hm
    rw [e] at e'; cases e'
    exact hnf _ dd
  have flyOn : ∀ {a : Addr} {B : Heap} {sI s' : Shared} {σ' : L2.St} {H' : Hp} {cls : Value} {d : Option Addr} {h3 : Heap}, Inv X pins σ' H' sI → (∀ b o, sI.heap.get? b = some o → b ∉ frs X.stack → B.get? b = some o) → sI.heap.UpToSlots h3 →
      HandSPX.FlyingZ B (X.env :: X.outer) a (Zc cls d) h3 → H' a = none → s'.os = sI.os → AllBare s'.gens → Wout cls d σ' H' → wpAny (model X.prog X.w) X.A (handleBy (.ref a) X.env []) (SP X pins D) X.xe { s' with heap := h3 } := by
    intro a B sI s' σ' H' cls d h3 J nb up fl3 na os ag w
    refine wpAny_handleBy_nil ?_
    obtain ⟨k1, k2, k3, oe, vs, T, oT, ts', he, hz, hd, h1, hr⟩ := id fl3
    unfold PySem.passOn
    refine wpAny_bind (wpAny_field he hd h1 ?_)
    rw [if_neg (show ¬ ((Value.ref T == Value.none) = true) from by simp)]
    have fin : wpAny (model X.prog X.w) X.A (setFlight (.ref a) X.env.frame) (fun _ s4 => wpAny (model X.prog X.w) X.A (throw (.ref a) : Sem Flow) (SP X pins D) X.xe s4) X.xe { s' with heap := h3 } := by
      rw [hf]
      refine HandSPX.setFlight_upZ fl3 fun h4 hh4 up4 => wpAny_throw (tk _ _ ?_)
      exact ⟨a, B, sI, pins, σ', H', cls, d, rfl, J, nb, up.trans up4, .inr (.inr (by rw [hs]; exact hh4)), na, os, ag, w⟩
    first
      | exact wpAny_bind (wpAny_pure (wpAny_bind fin))
      | exact wpAny_bind fin
  refine wpAny_Try_except ?_
  refine wpAny_mono ((hb (wTup X.K c1 c2 ts Wout D) (X.pn ++ pins) (fun e s₁ => wpAny (model X.prog X.w) X.A (noteFrame e X.env) (fun _ s₂ => wpAny (model X.prog X.w) X.A (setFlight e none) (fun _ s₃ =>
    wpAny (model X.prog X.w) X.A (handleBy e X.env [.ExceptHandler (some (.Tuple [.Name x1 n1, .Name x2 n2] kk tpos)) none (b₀ :: suite) pos']) (SP X pins D) X.xe s₃) X.xe s₂) X.xe s₁) (fun u s' xx => ?_) PassesOwn.looking).run [] s σ H D (I.toTry _) h) (fun f s1 hsp => ?_) (fun e s1 he => he)
  · obtain ⟨a, B, sI, pins', σ', H', cls, d, rfl, J', nb, up, sky, na, os, ag, b, hb1, hyes, hno⟩ := xx
    have J : Inv X pins σ' H' sI := J'.ofTry ok
    have sky' : Sky B (X.env :: X.outer) a (L2N.Zn cls d) X.env.locals s'.heap := by rw [← hs]; exact sky
    show wpAny (model X.prog X.w) X.A (noteFrame (.ref a) X.env) _ _ _
    refine L2N.Sky.land L2N.Zn.steady hfr hf sky' fun h3 fl3 up3 => ?_
    have J3 : Inv X pins σ' H' { s' with heap := h3 } := J.landed nb fl3.1 (up.trans up3) os ag
    obtain ⟨oe3, vs3, he3, hz3, hd3⟩ := fl3.there
    have nfr : a ∉ frs (X.env :: X.outer) := notFr fl3.2.2.1 he3 hd3
    have nL : a ≠ X.env.locals := fun z => nfr (List.mem_filterMap.mpr ⟨X.env, List.mem_cons_self, by rw [hf, z]⟩)
    have nF : a ∉ X.fs := fun hm => by
      obtain ⟨e, he, q⟩ := List.mem_filterMap.mp hm
      exact nfr (List.mem_filterMap.mpr ⟨e, List.mem_cons_of_mem _ he, q⟩)
    have S3 := J3.suite he3 hd3 na nL nF
    refine wpAny_handleBy_cons (codeAny_handlers_test ?_) (by intro q; cases q)
    have LT : PySem.W.Looks (model X.prog X.w) h3 (typeOf (.ref a)) cls := fun A Q E s k q => wpAny_typeOf_ref (k _ _ he3) (by rw [hz3.1]; exact q)
    have test : ∀ {x : Str} {c : Value} {np : Pos} {Q : Value → Shared → Prop} {E : Value → Shared → Prop}, Names X x c → Q c { s' with heap := h3 } → wpAny (model X.prog X.w) (X.A.mark (some (.ref a))) (eval (.Name x np) X.env) Q E { s' with heap := h3 } := fun {x c np Q E} hc q => by
      obtain ⟨hg, hdbg, hm | ⟨hm, hv, hnn⟩⟩ := hc
      · exact ld_glob (X := X.suite a ((a, oe3) :: (X.pn ++ pins))) S3 hg hm q hdbg
      · exact ld_blt (X := X.suite a ((a, oe3) :: (X.pn ++ pins))) S3 hg hm hv q hnn hdbg
    refine wpAny_Tuple ?_
    refine wpAny_items_cons (test hc1 ?_)
    refine wpAny_items_cons (test hc2 ?_)
    refine wpAny_items_nil ⟨by size_fits, ?_⟩
    have kp : ∀ q o, h3.get? q = some o → (h3.push { cls := .type "tuple", data := .seq [c1, c2].toArray }).get? q = some o := fun _ _ z => Heap.get?_push_of_some _ z
    have fl5 := flyZ_keeps fl3 kp
    refine (PySem.W.exm_tup2 ((J3.kIn).keeps kp) (LT.keeps kp) (Heap.get?_push_size h3 rfl) hb1).here ?_
    have up5 : h3.UpToSlots (h3.push { cls := .type "tuple", data := .seq [c1, c2].toArray }) := Heap.UpToSlots.of_keeps kp
    cases b with
    | true =>
      refine codeAny_handlers_suite ?_
      refine HandSPX.lands_againZ fl5 fun h4 fl4 up4 => ?_
      have J4 : Inv X pins σ' H' { s' with heap := h4 } := J.landed nb fl4.1 (((up.trans up3).trans up5).trans up4) os ag
      obtain ⟨oe4, vs4, he4, hz4, hd4⟩ := fl4.there
      have S4 := J4.suite he4 hd4 na nL nF
      have tkS : L2.Takes (suiteX X a ((a, oe4) :: (X.pn ++ pins))) Wout := fun u2 s2 x2 => by
        obtain ⟨a2, B2, sI2, pn2, σ2, H2, cls2, d2, e2, I2, nb2, up2, sky2, na2, os2, ag2, w2⟩ := x2
        exact tk u2 s2 ⟨a2, B2, sI2, pins, σ2, H2, cls2, d2, e2, unsuiteX I2 ok, nb2, up2, sky2, na2, os2, ag2, w2⟩
      have hot : HotC (suiteX X a ((a, oe4) :: (X.pn ++ pins))) := ⟨(a, oe4), ⟨rfl, vs4, hd4, hz4.2.2 vs4 hd4⟩, List.mem_cons_self⟩
      refine wpAny_mono ((hsu a oe4 cls d (X.pn ++ pins) hz4 ⟨_, hd4⟩ tkS hot).run [] _ _ H' _ (suiteX_of S4) (hyes rfl a na)) (fun f s6 hsp => ?_) (fun e6 s6 z => hpa (some (.ref a)) e6 s6 z)
      cases f with
      | next =>
        obtain ⟨σ6, H6, S6, q6⟩ := hsp
        exact ⟨_, _, unsuiteX S6 ok, q6⟩
      | brk =>
        obtain ⟨σ6, H6, S6, q6⟩ := hsp
        exact ⟨_, _, unsuiteX S6 ok, q6⟩
      | cont =>
        obtain ⟨σ6, H6, S6, q6⟩ := hsp
        exact ⟨_, _, unsuiteX S6 ok, q6⟩
      | ret u =>
        obtain ⟨v6, σ6, H6, S6, r6, q6⟩ := hsp
        exact ⟨_, _, _, unsuiteX S6 ok, r6, q6⟩
    | false =>
      show wpAny _ X.A (handleBy (.ref a) X.env []) _ _ _
      exact flyOn J nb ((up.trans up3).trans up5) (flyingZ_imp (fun o z => z.zc) fl5) na os ag (hno rfl)
  · cases f with
    | next =>
      obtain ⟨σ', H', J', q⟩ := hsp
      exact wpAny_execs_nil ⟨σ', H', J'.ofTry ok, q⟩
    | brk =>
      obtain ⟨σ', H', J', q⟩ := hsp
      exact ⟨σ', H', J'.ofTry ok, q⟩
    | cont =>
      obtain ⟨σ', H', J', q⟩ := hsp
      exact ⟨σ', H', J'.ofTry ok, q⟩
    | ret u =>
      obtain ⟨v, σ', H', J', r, q⟩ := hsp
      exact ⟨v, σ', H', J'.ofTry ok, r, q⟩
end
end H33
namespace L2
open PySem PySem.Spec PyProof.Rows
/-- a def that raises where nothing is handled -/
theorem Fun.okN {P : Program} {w : World} {K : PySem.W.Frag} {mg : Str → Option Value} {base : Heap} {x qual : Str} {st : Stmt} {f : Addr} {fd : FuncData} {N ps : List Str} {k : Nat} {sp : Sp} (F : Fun K x qual st f fd) (S : FnScope N ps (defScope st)) (len : ∀ vs H Q E, sp vs H Q E → vs.length = ps.length)
    (hb : ∀ (cdv : Value) (A : Around) (outer : List Env) (s : Shared) (H : Hp) (vs : List V) (Q : VK) (E : XK), Room k (A.deeper (envOfC qual (defScope st) s.heap.objs.size f cdv)) → sp vs H Q E →
      ∃ t, PSs (cxOf (L2N.CX P w) P w K mg base N qual (defScope st) f cdv A outer s H E) (defBody st) t ∧ t { nx := fun _ H' => Q .non H', rt := Q } (start N vs) H) : FnOk P w K mg base (L2N.CX P w) (k + 1) f fd ps sp := by
  obtain ⟨_, _, _, _, _, _, _, _, _, rfl, lk, hcd⟩ := F.ex
  exact fn_of lk hcd S len fun A outer s H vs Q E hr hsp => hb _ A outer s H vs Q E hr hsp
end L2

namespace H33
open PySem PySem.Spec PyProof.Rows L2
/-! H16's rule where nothing is handled: the exception's context is None -/
section
variable {X : Cx}
/-- what is in the air of the def goes on out of a comprehension's block -/
theorem xeN_comp {W : WX} {ce : Env} {C : Addr} {u : Value} {s' : Shared} {m : Str → Option Value} (hs : X.stack = X.env :: X.outer) (hf : X.env.frame = some X.env.locals) (hcf : ce.frame = X.env.frame) (hL : ce.locals = C)
    (hn : s'.heap.Ns C m) (hst : C ∉ frs X.stack) (p1 : C ≠ X.env.locals) (p3 : C ∈ X.ex ∨ X.s_0.heap.objs.size ≤ C) (p4 : ∀ x c, X.env.cells.lookup x = some c → c ≠ C) (p5 : ∀ p ∈ X.pn, p.1 ≠ C) (tk : L2N.Takes X W) (x : L2N.XE X (fun cls d σ H => W cls d σ H ∧ H C = none) u s') :
    notedBy (model X.prog X.w) X.A ce (CompFails (model X.prog X.w) X.A X.xe ce) u s' := by
  obtain ⟨a, B, sI, pins, σ, H, cls, d, rfl, I0, nb, up, sky, na, os, ag, w, p0⟩ := x
  have I : Inv X [] σ H sI := ⟨I0.ok, I0.os, I0.bare, I0.base, I0.loc, I0.cell, I0.free, I0.freeC, fun p hp => I0.pin p (List.mem_append_left _ (by simpa using hp)), I0.hok, I0.len⟩
  have hfr : X.A.frames = some (X.env :: X.outer) := by rw [I.ok.frames, hs]
  have fin : ∀ h1, HandSPX.HeldZ B (X.env :: X.outer) a (L2N.Zn cls d) X.env.locals h1 → s'.heap.UpToSlots h1 → CompFails (model X.prog X.w) X.A X.xe ce (.ref a) { s' with heap := h1 } := fun h1 hh up1 => by
    obtain ⟨b1, b0, f1, t1⟩ := hh
    have hn1 : h1.Ns C m := hn.upToSlots up1
    refine ⟨m, by rw [hL]; exact hn1, fun h₂ m₂ hn₂ hs₂ => ?_⟩
    rw [hL] at hn₂ hs₂
    obtain ⟨oC, eC, epC, hoC, hdC, _⟩ := hn1
    obtain ⟨oe, vs, T, oT, ts, he, hz, hd, h1', hnT, hTe, hT, hdT, h3⟩ := t1
    have aC : a ≠ C := fun e => by
      rw [e, hoC] at he
      cases he
      rw [hdC] at hd
      cases hd
    have TC : T ≠ C := fun e => by
      rw [e, hoC] at hT
      cases hT
      rw [hdC] at hdT
      cases hdT
    have he2 : h₂.get? a = some oe := (hs₂.2 a aC).trans he
    have hT2 : h₂.get? T = some oT := (hs₂.2 T TC).trans hT
    have hB' : ∀ b o, (PySem.W.hideAll B [C]).get? b = some o → b ≠ C ∧ B.get? b = some o := fun b o e => by
      refine ⟨fun z => ?_, PySem.W.of_hideAll _ e⟩
      rw [z, PySem.W.hideAll_none _ List.mem_cons_self] at e
      cases e
    have hBn : ∀ b, B.get? b = none → (PySem.W.hideAll B [C]).get? b = none := fun b e => by
      cases q : (PySem.W.hideAll B [C]).get? b with
      | none => rfl
      | some o =>
        have := (hB' b o q).2
        rw [e] at this
        cases this
    have b2 : (PySem.W.hideAll B [C]).StaysIn h₂ := fun b o hb => by
      obtain ⟨n1, n2⟩ := hB' b o hb
      exact (hs₂.2 b n1).trans (b1 b o n2)
    have f2 : h₂.FunFrames (PySem.W.hideAll B [C]) (X.env :: X.outer) := by
      have f1' : h1.FunFrames (PySem.W.hideAll B [C]) (X.env :: X.outer) := funFrames_none f1 fun b hb => hBn b (f1.mem hb).1
      exact Heap.FunFrames.sameBut hs₂ hn₂ f1'
    have t2 : HandSPX.TracedZ h₂ (PySem.W.hideAll B [C]) a (L2N.Zn cls d) (rawInt X.env.locals) := ⟨oe, vs, T, oT, ts, he2, hz, hd, h1', hBn T hnT, hTe, hT2, hdT, h3⟩
    unfold PySem.passOn
    refine wpAny_bind (wpAny_field he2 hd h1' ?_)
    rw [if_neg (show ¬ ((Value.ref T == Value.none) = true) from by simp)]
    rw [hcf, hf]
    refine wpAny_bind (HandSPX.setFlight_onZ (s := { s' with heap := h₂ }) ⟨b2, hBn a b0, f2, t2⟩ fun h₃ hh3 up3 => ?_)
    refine wpAny_throw (tk _ _ ?_)
    refine ⟨a, PySem.W.hideAll B [C], { sI with heap := PySem.W.hideAll sI.heap [C], toks := sI.toks }, [], σ, H, cls, d, rfl, I.turned (t' := sI.toks) (it := C) (fun b o hb e => PySem.W.hideAll_get _ e (by simpa using hb)) p0 p1 p3 p4 (fun p hp => p5 p (by simpa using hp)), fun b o e hb => ?_, fun b o e hnf => ?_, ?_, na, os, ag, w⟩
    · have e' : (PySem.W.hideAll sI.heap [C]).get? b = some o := e
      have nC : b ≠ C := fun z => by
        rw [z, PySem.W.hideAll_none _ List.mem_cons_self] at e'
        cases e'
      exact PySem.W.hideAll_get _ (nb b o (PySem.W.of_hideAll _ e') hb) (by simpa using nC)
    · have e' : (PySem.W.hideAll sI.heap [C]).get? b = some o := e
      have nC : b ≠ C := fun z => by
        rw [z, PySem.W.hideAll_none _ List.mem_cons_self] at e'
        cases e'
      obtain ⟨sl1, q1⟩ := up b o (PySem.W.of_hideAll _ e') hnf
      obtain ⟨sl2, q2⟩ := up1 b _ q1 hnf
      obtain ⟨sl3, q3⟩ := up3 b _ ((hs₂.2 b nC).trans q2) hnf
      exact ⟨sl3, q3⟩
    · rw [hs]
      exact .inr (.inr hh3)
  show wpAny _ _ (noteFrame (.ref a) ce) _ _ s'
  rw [noteFrame_env _ hcf]
  rw [hs] at sky
  rcases sky with ⟨hB, hn', hl, oe, vs, he, hz, hd, h1⟩ | fl | hh
  · exact PXN.look_newZ L2N.Zn.steady hfr hl hf he hB hn' hd h1 hz fin
  · exact PXN.looks_onZ L2N.Zn.steady hfr hf fl fin
  · exact HandSPX.againZ hf hh.2.2.2 (fin s'.heap hh (Heap.UpToSlots.refl _))
/-- [elt for target in iter if ..], the element may raise -/
theorem pe_lcN {elt tg iter : Expr} {ifs : List Expr} {scope : Scope} {own : List (Str × Nat)} {pos : Pos} {wi : TI} {g : TG} {tt : TT} {te : TE} {E : XK} {W : WX} (hc : X.calm = true) (hN : X.N.Nodup) (hst : X.stack = X.env :: X.outer) (hfr : X.env.frame = some X.env.locals) (tk : L2N.Takes X W) (hW : ∀ cls d σ H, E cls d H → W cls d σ H)
    (hi : PI X tg iter wi) (ok : BlkOk X.N X.env.scope scope own)
    (hg : ∀ (s : Shared) (H : Hp) (C : Addr) (cl : List (Str × Addr)) (fp : List Addr), PG (X.blk s H scope (compEnvC scope cl C X.env) fp) tg g) (ht : ∀ (s : Shared) (H : Hp) (C : Addr) (cl : List (Str × Addr)) (fp : List Addr), PTs (X.blk s H scope (compEnvC scope cl C X.env) fp) ifs tt)
    (he : ∀ (s : Shared) (H : Hp) (C : Addr) (cl : List (Str × Addr)) (fp : List Addr) (R : Value → Shared → Prop), Passes (L2N.CX X.prog X.w) ((X.blk s H scope (compEnvC scope cl C X.env) fp).wish R) E → PE ((X.blk s H scope (compEnvC scope cl C X.env) fp).wish R) elt te) (hs : ∀ x, foldedSetIterable iter X.env x = pure x := by intro _; rfl) :
    PE X (.ListComp elt [⟨tg, iter, ifs, 0⟩] scope pos) (tLc wi g tt te (own.map (·.2))) := by
  refine ⟨fun pins s σ H Q I h => ?_⟩
  rw [eval_ListComp]
  have hfree : ∀ y ∈ scope.names, y.2 = .free → ∃ c, X.env.cells.lookup y.1 = some c := fun y hy e => by
    rcases ok.free y hy e with k | k
    · exact I.ok.has _ (.inl k)
    · exact I.ok.has _ (.inr k)
  refine comprehension_at (use := none) rfl hs (closure_ok hfree) ok.kind (fun y hy e => by rw [ok.uniq y hy, e])
    (thn (hi.run pins s σ H _ I h) fun xv s1 hx => thn hx fun itv s2 h2 => ?_)
  obtain ⟨it, fp, tn, J, H2, e, I2, T, st2, f2, q⟩ := h2
  subst e
  refine wpAny_newObj_type (newEnv_comp ?_) (by show 0 ≤ sizeLine; decide)
  generalize hD : s2.heap.objs.size = D
  have hDn : H2 D = none := I2.hok.fresh (Nat.le_of_eq hD)
  obtain ⟨W', ⟨m0, w0⟩, turn⟩ := q D hDn
  generalize hs3 : ({ s2 with heap := s2.heap.push { cls := .type "list", data := .seq ([] : List Value).toArray } } : Shared) = s3
  have I3 : Inv X pins σ (upd H2 D (.lst [])) s3 := by
    rw [← hs3]
    refine I2.laid (t' := s2.toks) (fun b o e => Heap.get?_push_of_some _ e) (Nat.le_of_eq hD) ⟨Nat.zero_le _, [], 0, .nil, ?_⟩
    rw [← hD]
    exact Heap.get?_push_size _ rfl
  have h3 : s3.heap = s2.heap.push { cls := .type "list", data := .seq ([] : List Value).toArray } := by rw [← hs3]
  have sz : ∀ b ∈ fp, b < s2.heap.objs.size := fun b hb => by
    obtain ⟨o, e, _⟩ := T.obj _ _ st2 b hb
    exact Heap.lt_size e
  have f3 : ∀ b ∈ fp, FpOk X pins (upd H2 D (.lst [])) b ∧ b < s3.heap.objs.size := fun b hb => by
    have hlt := sz b hb
    refine ⟨⟨?_, (f2 b hb).2⟩, by rw [h3, Heap.size_push]; exact Nat.lt_succ_of_lt hlt⟩
    rw [upd_ne (by rw [← hD]; exact Nat.ne_of_lt hlt)]
    exact (f2 b hb).1
  have st3 : tn 0 s3.heap := T.keep _ _ _ st2 fun b _ o e => by rw [h3]; exact Heap.get?_push_of_some _ e
  have I4 := block_start I3 ok hN f3
  have pg := hg s3 (upd H2 D (.lst [])) s3.heap.objs.size (cellsFrom (s3.heap.objs.size + 1) scope.names (cloFrom X.env.cells scope.names [])) fp
  have pt := ht s3 (upd H2 D (.lst [])) s3.heap.objs.size (cellsFrom (s3.heap.objs.size + 1) scope.names (cloFrom X.env.cells scope.names [])) fp
  have pe := he s3 (upd H2 D (.lst [])) s3.heap.objs.size (cellsFrom (s3.heap.objs.size + 1) scope.names (cloFrom X.env.cells scope.names [])) fp
  show codeAny _ _ (.compStart (.ListComp elt [⟨tg, iter, ifs, 0⟩] scope pos) 0 (.ref it) (.ref D) (compEnvC scope (cellsFrom (s3.heap.objs.size + 1) scope.names (cloFrom X.env.cells scope.names [])) s3.heap.objs.size X.env)) (compEnds (model X.prog X.w) X.A X.xe none (EP X pins σ Q) (.ref D) (compEnvC scope (cellsFrom (s3.heap.objs.size + 1) scope.names (cloFrom X.env.cells scope.names [])) s3.heap.objs.size X.env)) { s3 with heap := pushCells (s3.heap.push { cls := .type "dict", data := .dict #[] }) scope.names }
  have nfp : ∀ b ∈ fp, (upd H2 D (.lst [])) b = none := fun b hb => (f3 b hb).1.1
  generalize hce : compEnvC scope (cellsFrom (s3.heap.objs.size + 1) scope.names (cloFrom X.env.cells scope.names [])) s3.heap.objs.size X.env = ce at I4 pg pt pe ⊢
  have cL : ce.locals = s3.heap.objs.size := by subst hce; rfl
  have cF : ce.frame = X.env.frame := by subst hce; rfl
  generalize hH3 : upd H2 D (.lst []) = H3 at I3 I4 pg pt pe w0 nfp f3
  generalize hs4 : ({ s3 with heap := pushCells (s3.heap.push { cls := .type "dict", data := .dict #[] }) scope.names } : Shared) = s4 at I4 ⊢
  have st4 : tn 0 s4.heap := T.keep _ _ _ st3 fun b _ o e => by rw [← hs4]; exact pushCells_keeps _ _ _ _ (Heap.get?_push_of_some _ e)
  have stat : ∀ {σ' : L2.St} {H' : Hp} {s' : Shared}, Inv (X.blk s3 H3 scope ce fp) [] σ' H' s' → (∀ b ∈ fp, H' b = none) → ∀ b ∈ fp, FpOk (X.blk s3 H3 scope ce fp) [] H' b := fun {σ' H' s'} I' hn b hb =>
    ⟨hn b hb, (I'.ok.exf b hb).1, I'.ok.exfs b hb, .inl hb, fun x c e => (I'.ok.exf b hb).2 x c e, fun p hp => absurd (show p ∈ ([] : List (Addr × Obj)) ++ [] from hp) (by simp)⟩
  have nstk : s3.heap.objs.size ∉ frs X.stack := fun hm => by
    obtain ⟨_, o, ho, _⟩ := I3.stack.mem hm
    exact absurd (Heap.lt_size ho) (Nat.lt_irrefl _)
  -- back in the def's context
  have back : ∀ {pins' : List (Addr × Obj)} {σ' : L2.St} {H' : Hp} {s' : Shared}, Inv (X.blk s3 H3 scope ce fp) pins' σ' H' s' → Inv X pins σ H' s' := fun {pins' σ' H' s'} I6 =>
    I3.call' (ch := fp) I6.os I6.base I6.hok I6.bare fun b hb => ⟨(f3 b hb).1.2.2.2.1, (f3 b hb).1.2.1, (f3 b hb).1.2.2.2.2.1, (f3 b hb).1.2.2.2.2.2⟩
  have pass : Passes (L2N.CX X.prog X.w) ((X.blk s3 H3 scope ce fp).wish (notedBy (model X.prog X.w) X.A ce (CompFails (model X.prog X.w) X.A X.xe ce))) E := fun pins' σ' H' s5 e s6 Iw c => by
    have Ib := Iw.unwish
    have c : L2N.CX X.prog X.w X.stack H' s5 E e s6 := c
    have I7 := back Ib
    obtain ⟨m, hn, _⟩ := Ib.loc
    have hn : s5.heap.Ns ce.locals m := hn
    rw [cL] at hn
    have nC : H' s3.heap.objs.size = none := by
      have z : H' ce.locals = none := Ib.free
      rw [cL] at z
      exact z
    have hn6 : s6.heap.Ns s3.heap.objs.size m := by
      obtain ⟨a, B, H'', cls, d, rfl, fl, hok, ub, na, os, ag, hE⟩ := c
      obtain ⟨o, es, ep, ho, r⟩ := hn
      exact ⟨o, es, ep, fl.1 _ _ (ub.keep _ o ho nC nstk), r⟩
    have c2 : L2N.CX X.prog X.w X.stack H' s5 (fun cls d H'' => E cls d H'' ∧ H'' s3.heap.objs.size = none) e s6 := by
      obtain ⟨a, B, H'', cls, d, rfl, fl, hok, ub, na, os, ag, hE⟩ := c
      obtain ⟨o, es, ep, ho, r⟩ := hn
      exact ⟨a, B, H'', cls, d, rfl, fl, hok, ub, na, os, ag, hE, ub.free _ o ho nC⟩
    obtain ⟨f0, f1, f2', f3', f4, f5⟩ := I3.fpOk (Nat.le_refl _) nC
    exact xeN_comp hst hfr cF cL hn6 nstk f1 f3' f4 (fun p hp => f5 p (List.mem_append_left _ hp)) tk (L2N.XE.of_call I7 (fun cls d H'' h => ⟨hW cls d σ H'' h.1, h.2⟩) c2)
  have loop : codeAny (model X.prog X.w) X.A (.compLoop (.ListComp elt [⟨tg, iter, ifs, 0⟩] scope pos) 0 (.ref it) (.ref D) ce) (compEnds (model X.prog X.w) X.A X.xe none (EP X pins σ Q) (.ref D) ce) s4 := by
    refine compLoop_any (fun n s' => ∃ i H', Inv (X.blk s3 H3 scope ce fp) [] (wipe σ (own.map (·.2))) H' s' ∧ tn i s'.heap ∧ (∀ b ∈ fp, H' b = none) ∧ W' i n H') ?_ m0 ⟨0, H3, I4, st4, nfp, w0⟩
    rintro n s5 ⟨i, H5, I5, st5, n5, w5⟩
    rcases turn i n H5 w5 with ⟨stop, qq⟩ | ⟨go, Nx, hNx, step⟩
    · have td := T.done (X.blk s3 H3 scope ce fp) rfl rfl rfl hc i [] s5 _ H5 (fun _ _ => False) I5 (stat I5 n5) st5 stop
      refine thnF td fun r s6 ⟨hr, I6⟩ => ?_
      subst hr
      have I7 : Inv X pins σ H5 s6 := back I6
      have nC : H5 s3.heap.objs.size = none := by
        have z : H5 ce.locals = none := I6.free
        rw [cL] at z
        exact z
      obtain ⟨m, hn, _⟩ := I6.loc
      have hn : s6.heap.Ns ce.locals m := hn
      refine ⟨m, hn, fun h'' sb => ?_⟩
      rw [cL] at sb
      obtain ⟨f0, f1, f2', f3', f4, f5⟩ := I3.fpOk (Nat.le_refl _) nC
      exact ⟨.ref D, H5, I7.turned (t' := s6.toks) (fun b o hb e => (sb.2 b hb).trans e) f0 f1 f3' f4 f5, rfl, qq⟩
    · have ti := T.item (X.blk s3 H3 scope ce fp) rfl rfl rfl hc i [] s5 _ H5 (fun _ _ => False) I5 (stat I5 n5) st5 go
      refine thnF ti fun r s6 ⟨u, hr, h6⟩ => ?_
      subst hr
      refine thnF h6 fun _ s7 ⟨x, H7, I7, r7, y7, st7, n7⟩ => ?_
      have I7' := I7.pinned (stat I7 n7) (T.obj _ _ st7)
      refine thnF (pg.run _ s7 _ H7 x u _ I7' r7 (step x H7 y7)) fun _ s8 ⟨σ8, H8, I8, hw8, q8⟩ => ?_
      refine thnF (pt.run _ s8 σ8 H8 _ I8 q8) fun b s9 ⟨H9, I9, q9⟩ => ?_
      have fin : ∀ {s' : Shared} {H' : Hp}, Inv (X.blk s3 H3 scope ce fp) ([] ++ pinsAt fp s7.heap) σ8 H' s' → Nx H' → ∃ m, m < n ∧ ∃ i H', Inv (X.blk s3 H3 scope ce fp) [] (wipe σ (own.map (·.2))) H' s' ∧ tn i s'.heap ∧ (∀ b ∈ fp, H' b = none) ∧ W' i m H' := fun {s' H'} I' nx => by
        obtain ⟨m', hm, w'⟩ := hNx H' nx
        have pin' : ∀ b ∈ fp, ∀ o, s7.heap.get? b = some o → s'.heap.get? b = some o ∧ H' b = none := fun b hb o e =>
          let z := I'.pin (b, o) (List.mem_append_right _ (List.mem_append_right _ (mem_pinsAt hb e)))
          ⟨z.1, z.2.1⟩
        have hl : (wipe σ (own.map (·.2))).length = σ8.length := by rw [← hw8, wipe_length]
        refine ⟨m', hm, i + 1, H', (I'.unpinned (pins := [])).weak hl (fun j v e => ?_), T.keep _ _ _ st7 fun b hb o e => (pin' b hb o e).1, fun b hb => ?_, w'⟩
        · rw [← hw8] at e
          exact (wipe_some e).1
        · obtain ⟨o, e, _⟩ := T.obj _ _ st7 b hb
          exact (pin' b hb o e).2
      cases b with
      | false =>
        simp only [Bool.false_eq_true, if_false] at q9 ⊢
        exact fin I9 q9
      | true =>
        simp only [if_true] at q9 ⊢
        refine wpAny_mono ((pe _ pass).run _ s9 σ8 H9 _ (I9.wish _) q9) (fun z s10 ⟨yv, H10, I10w, r10, acc, hD10, hz10, nx⟩ => ?_) fun _ _ z => z
        exact app_ok (X := X.blk s3 H3 scope ce fp) I10w.unwish hD10 hz10 r10 fun s11 I11 => fin I11 nx
  exact codeAny_compStart_list loop (T.self X.A 0 _ _ _ st4 loop)
end
end H33

namespace HL
open PySem PySem.Spec PyProof.Rows L2
open C8 (pss_cut)
/-! ### the text -/
def topS (i : Nat) : Stmt := PySem.Challenge.pw_hamperlot_k53_whole_texts_that_are_no_pa.main.body.getD i (.Pass ⟨0, 0, 0, 0⟩)
abbrev sIsHold : Stmt := topS 11
abbrev sLook : Stmt := topS 12
abbrev sLayDown : Stmt := topS 17
abbrev sIsName : Stmt := topS 18
abbrev sLotNamed : Stmt := topS 19
abbrev sRowText : Stmt := topS 23
abbrev sIsNum : Stmt := topS 24
abbrev sReadRow : Stmt := topS 25
abbrev sLotText : Stmt := topS 26
abbrev sReadLot : Stmt := topS 27
abbrev sYardOf : Stmt := topS 31
abbrev sPage : Stmt := topS 33
abbrev sLotInLine : Stmt := topS 34
abbrev sReadPage : Stmt := topS 35
abbrev sFeed : Stmt := topS 37
abbrev sDraw : Stmt := topS 38
abbrev sPick : Stmt := topS 39
abbrev sSame : Stmt := topS 40
abbrev sHold : Stmt := topS 41
abbrev sLot : Stmt := topS 42
abbrev sAny : Stmt := topS 43
abbrev sRowTextL : Stmt := topS 44
abbrev sLotTextL : Stmt := topS 45
abbrev sNames : Stmt := topS 46
abbrev sIsLot : Stmt := topS 47
abbrev sIsNameL : Stmt := topS 48
abbrev sNumIn : Stmt := topS 49
abbrev sLotIn : Stmt := topS 50
abbrev sRead53 : Stmt := topS 51
abbrev sBent : Stmt := topS 52
abbrev sLaw : Stmt := topS 53
/-! ### heaps -/
/-- all that stood but at f stands -/
def Kp (f : Addr) (H H' : Hp) : Prop := ∀ b o, b ≠ f → H b = some o → H' b = some o
theorem Kp.refl (f : Addr) (H : Hp) : Kp f H H := fun _ _ _ h => h
theorem Kp.trans {f : Addr} {H H1 H2 : Hp} (a : Kp f H H1) (b : Kp f H1 H2) : Kp f H H2 := fun c o n h => b c o n (a c o n h)
theorem Same.kp {f : Addr} {H H' : Hp} (a : Same H H') : Kp f H H' := fun b o _ h => a b o h
theorem Kp.put {f : Addr} {H : Hp} {o : HO} : Kp f H (upd H f o) := fun b _ n h => by
  rw [upd_ne n]
  exact h
theorem same_new {H : Hp} {p : Addr} {o : HO} (h : H p = none) : Same H (upd H p o) := fun b x e => by
  rw [upd_ne (ne_of_none e h)]
  exact e
theorem Kp.new {f : Addr} {H : Hp} {p : Addr} {o : HO} (h : H p = none) : Kp f H (upd H p o) := Same.kp (same_new h)
/-- the feed at f -/
def FeedAt (c : Addr) (H : Hp) (f : Addr) : Prop := ∃ (ns : List Int) (i b m n : Int),
  H f = some (.lst [.ref c, .int i, .int b, .int m, .int n]) ∧ H c = some (.lst (ns.map V.int)) ∧ 0 ≤ i ∧ 0 ≤ b ∧ 0 ≤ m ∧ m < 2147483647
theorem FeedAt.same {c : Addr} {H H' : Hp} {f : Addr} (F : FeedAt c H f) (s : Same H H') : FeedAt c H' f := by
  obtain ⟨ns, i, b, m, n, h1, h2, h3⟩ := F
  exact ⟨ns, i, b, m, n, s _ _ h1, s _ _ h2, h3⟩
theorem FeedAt.new {c : Addr} {H : Hp} {f p : Addr} {o : HO} (F : FeedAt c H f) (h : H p = none) : FeedAt c (upd H p o) f := F.same (same_new h)
theorem FeedAt.ne {c : Addr} {H : Hp} {f p : Addr} (F : FeedAt c H f) (h : H p = none) : p ≠ f := by
  obtain ⟨ns, i, b, m, n, h1, _⟩ := F
  exact fun e => by
    rw [e, h1] at h
    cases h
theorem FeedAt.neC {c : Addr} {H : Hp} {f p : Addr} (F : FeedAt c H f) (h : H p = none) : p ≠ c := by
  obtain ⟨ns, i, b, m, n, _, h1, _⟩ := F
  exact fun e => by
    rw [e, h1] at h
    cases h
theorem FeedAt.tup {c : Addr} {H : Hp} {f p : Addr} {xs : List V} (F : FeedAt c H f) (h : H p = some (.tup xs)) : p ≠ f := by
  obtain ⟨ns, i, b, m, n, h1, _⟩ := F
  exact ne_of h h1 (fun e => by cases e)
/-- another thing than the feed is written -/
theorem FeedAt.put {c : Addr} {H : Hp} {f D : Addr} {o : HO} (F : FeedAt c H f) (n1 : D ≠ f) (n2 : D ≠ c) : FeedAt c (upd H D o) f := by
  obtain ⟨ns, i, b, m, n, h1, h2, h3⟩ := F
  exact ⟨ns, i, b, m, n, by rw [upd_ne (Ne.symm n1)]; exact h1, by rw [upd_ne (Ne.symm n2)]; exact h2, h3⟩
/-- where nothing stood behind, nothing stood ahead -/
theorem Kp.free {f : Addr} {H H' : Hp} {p : Addr} (k : Kp f H H') (n : p ≠ f) (h : H' p = none) : H p = none := by
  cases e : H p with
  | none => rfl
  | some o =>
    rw [k _ _ n e] at h
    cases h
/-- what is new since H may be written -/
theorem Kp.late {f : Addr} {H H' : Hp} {D : Addr} {o : HO} (k : Kp f H H') (nD : H D = none) : Kp f H (upd H' D o) := fun b x n e => by
  rw [upd_ne (ne_of_none e nD)]
  exact k _ _ n e
theorem same_late {H H' : Hp} {D : Addr} {o : HO} (k : Same H H') (nD : H D = none) : Same H (upd H' D o) := fun b x e => by
  rw [upd_ne (ne_of_none e nD)]
  exact k _ _ e
theorem ref_ne {c : Addr} {ns : List Int} {r : List V} : (V.ref c :: r) ≠ ns.map V.int := by
  cases ns with
  | nil => exact fun e => by cases e
  | cons x xs => exact fun e => by simp at e
/-! ### the feed -/
theorem scFeed : FnScope ["_law_script"] ["_law_script"] (defScope sFeed) := ⟨rfl, rfl, rfl, by decide +kernel, rfl, by decide +kernel, by decide +kernel⟩
theorem scDraw : FnScope ["_law_feed_here", "_law_many", "_law_cell", "_law_digit", "_law_mix"] ["_law_feed_here", "_law_many"] (defScope sDraw) := ⟨rfl, rfl, rfl, by decide +kernel, rfl, by decide +kernel, by decide +kernel⟩
theorem scPick : FnScope ["_law_feed_here", "_law_row"] ["_law_feed_here", "_law_row"] (defScope sPick) := ⟨rfl, rfl, rfl, by decide +kernel, rfl, by decide +kernel, by decide +kernel⟩
section
variable {P : Program} {w : World} {K : PySem.W.Frag} {mg : Str → Option Value} {base : Heap}
def spFeed (K : PySem.W.Frag) : Sp := fun vs H Q _ => ∃ (a : Addr) (ns : List Int), vs = [.ref a] ∧ SqL K H a (ns.map V.int) ∧ ns.length ≤ 63 ∧
  ∀ H' f c, Same H H' → H f = none → FeedAt c H' f → Q (.ref f) H'
theorem cut_ints (ns : List Int) (lo hi : Option Int) : ∃ ms : List Int, cutV (ns.map V.int) lo hi = ms.map V.int := by
  refine ⟨(ns.drop (HT.sIx ns.length 0 lo)).take (HT.sIx ns.length ns.length hi - HT.sIx ns.length 0 lo), ?_⟩
  unfold cutV
  rw [List.length_map, List.map_take, List.map_drop]
theorem ok_feed {f : Addr} {fd : FuncData} {k : Nat} (F : Fun K "_law_feed" "_law_feed" sFeed f fd) (ml : mg "list" = none) : FnOk P w K mg base CX0 (k + 1) f fd ["_law_script"] (spFeed K) := by
  refine F.ok scFeed (fun vs H Q E h => ?_) (fun cdv A outer s H vs Q E hr h => ?_)
  · obtain ⟨a, ns, rfl, _⟩ := h
    rfl
  · obtain ⟨a, ns, rfl, hS, hlen, q⟩ := h
    refine ⟨_, pss_one (ps_ret (pe_lst (pa_cons (pe_callTy call_list_of (by rfl) ml (by decide +kernel) (pa_cons (pe_slice sl_list (pv 0) po_none (po_some pe_int)) pa_nil)) (pa_cons pe_int (pa_cons pe_int (pa_cons pe_int (pa_cons pe_int pa_nil))))))), ?_⟩
    obtain ⟨ms, hms⟩ := cut_ints ns none (some 63)
    refine ⟨.ref a, rfl, 63, rfl, a, ns.map V.int, rfl, hS, fun c nc => ?_⟩
    rw [hms]
    refine ⟨c, ms.map V.int, rfl, .inl (SqL.of upd_same), fun l nl => ?_⟩
    refine ⟨(by show 5 ≤ sizeLine; decide), fun g ng => ?_⟩
    refine q _ g l ?_ ?_ ⟨ms, 0, 0, 9132, 0, upd_same, ?_, by decide, by decide, by decide, by decide⟩
    · exact (same_new nc).trans ((same_new nl).trans (same_new ng))
    · exact (same_new nc).free ((same_new nl).free ng)
    · rw [upd_ne (fun e => by rw [← e, upd_same] at ng; cases ng), upd_same]

theorem atI_int {ns : List Int} {i : Int} (h0 : 0 ≤ i) (h1 : i < (ns.length : Nat)) : ∃ z, atI (ns.map V.int) i = some (.int z) := by
  have hl : i.toNat < ns.length := by omega
  refine ⟨ns[i.toNat], ?_⟩
  have e : ((i.toNat : Nat) : Int) = i := by omega
  refine (congrArg (atI (ns.map V.int)) e.symm).trans (atI_nat (j := i.toNat) ?_)
  rw [List.getElem?_map, List.getElem?_eq_getElem hl]
  rfl
def spDraw : Sp := fun vs H Q _ => ∃ (f c : Addr) (n : Int), vs = [.ref f, .int n] ∧ 1 ≤ n ∧ n ≤ 1000000000000000000000000000000 ∧ FeedAt c H f ∧
  ∀ d H', 0 ≤ d → d < n → Kp f H H' → FeedAt c H' f → Q (.int d) H'
theorem ok_draw {f : Addr} {fd : FuncData} {k : Nat} (F : Fun K "_law_draw" "_law_draw" sDraw f fd) (ml : mg "len" = none) : FnOk P w K mg base CX0 (k + 1) f fd ["_law_feed_here", "_law_many"] spDraw := by
  refine F.ok scDraw (fun vs H Q E h => ?_) (fun cdv A outer s H vs Q E hr h => ?_)
  · obtain ⟨a, c, n, rfl, _⟩ := h
    rfl
  · obtain ⟨a, c, n, rfl, n1, n2, ⟨ns, i, b, m, t, h1, h2, i0, b0, m0, m1⟩, q⟩ := h
    refine ⟨_, pss_cut (ps_if (PW.pt (pw_and (pt_cmpR op_lt (pe_ix ix_list (pv 0) pe_int (fun _ _ => rfl)) (pv 1) (nomark _))
          (pw_and1 (pt_cmpR op_lt (pe_ix ix_list (pv 0) pe_int (fun _ _ => rfl)) (pe_callB call_len_seq (by rfl) ml PySem.boot_len (pa_cons (pe_ix ix_list (pv 0) pe_int (fun _ _ => rfl)) pa_nil)) (nomark _)))))
        (pss_cons (ps_set (i := 2) scDraw.nd rfl (.inl rfl) (pe_ix ix_list (pe_ix ix_list (pv 0) pe_int (fun _ _ => rfl)) (pe_ix ix_list (pv 0) pe_int (fun _ _ => rfl)) (fun _ _ => rfl)))
        (pss_cons (ps_asg (pe_op op_add (pe_ix ix_list (pv 0) pe_int (fun _ _ => rfl)) pe_int) (pg_sub (pv 0) pe_int set_list))
        (pss_cons (ps_asg pe_int (pg_sub (pv 0) pe_int set_list))
        (pss_one (ps_if (pt_cmpR op_ge (pv 2) (pe_op op_pow pe_int pe_int) (nomark _))
          (pss_one (ps_asg (pv 2) (pg_sub (pv 0) pe_int set_list)))
          (pss_one (ps_asg (pe_op op_mod (pe_op op_add (pe_op op_add (pe_op op_mul (pe_ix ix_list (pv 0) pe_int (fun _ _ => rfl)) pe_int) (pe_op op_mul (pe_op op_mod (pv 2) pe_int) pe_int)) pe_int) pe_int) (pg_sub (pv 0) pe_int set_list))))))))
        pss_nil)
      (pss_cons (ps_if (pt_cmpR op_ge (pe_ix ix_list (pv 0) pe_int (fun _ _ => rfl)) (pv 1) (nomark _))
        (pss_cons (ps_set (i := 3) scDraw.nd rfl (.inl rfl) (pe_op op_mod (pe_ix ix_list (pv 0) pe_int (fun _ _ => rfl)) (pv 1)))
        (pss_cons (ps_asg (pe_op op_fdivW (pe_ix ix_list (pv 0) pe_int (fun _ _ => rfl)) (pv 1)) (pg_sub (pv 0) pe_int set_list))
        (pss_one (ps_ret (pv 3))))) pss_nil)
      (pss_cons (ps_asg (pe_op op_add (pe_ix ix_list (pv 0) pe_int (fun _ _ => rfl)) pe_int) (pg_sub (pv 0) pe_int set_list))
      (pss_cons (ps_set (i := 4) scDraw.nd rfl (.inl rfl) (pe_ix ix_list (pv 0) pe_int (fun _ _ => rfl)))
      (pss_cons (ps_set (i := 4) scDraw.nd rfl (.inl rfl) (pe_op op_add (pe_op op_add (pe_op op_add (pe_op op_mul (pe_op op_mod (pe_op op_mul (pv 4) (pv 4)) pe_int) pe_int) (pe_op op_mul (pv 4) pe_int)) (pe_op op_mul pe_int (pe_ix ix_list (pv 0) pe_int (fun _ _ => rfl)))) pe_int))
      (pss_cons (ps_asg (pe_op op_mod (pv 4) pe_int) (pg_sub (pv 0) pe_int set_list))
      (pss_one (ps_ret (pe_op op_mod (pe_op op_add (pe_op op_fdiv (pe_ix ix_list (pv 0) pe_int (fun _ _ => rfl)) pe_int) (pe_op op_mul (pe_op op_mod (pe_ix ix_list (pv 0) pe_int (fun _ _ => rfl)) pe_int) pe_int)) (pv 1))))))))), ?_⟩
    have hca : c ≠ a := fun e => by
      rw [e, h1] at h2
      exact ref_ne (HO.lst.inj (Option.some.inj h2))
    refine ⟨fun σ' H' => ∃ (y2 : Option V) (i b m t : Int), σ' = [some (.ref a), some (.int n), y2, none, none] ∧ Kp a H H' ∧ H' a = some (.lst [.ref c, .int i, .int b, .int m, .int t]) ∧ 0 ≤ i ∧ 0 ≤ b ∧ 0 ≤ m ∧ m < 2147483647, ?_, ?_⟩
    · refine ⟨.ref a, rfl, a, _, 2, .int b, rfl, rfl, SqL.of h1, atI_nat (j := 2) rfl, .int n, rfl, b, n, rfl, rfl, _, rfl, ite2 (fun c1 => ?_) (fun c1 => ?_)⟩
      · refine ⟨.ref a, rfl, a, _, 1, .int i, rfl, rfl, SqL.of h1, atI_nat (j := 1) rfl, .ref a, rfl, a, _, 0, .ref c, rfl, rfl, SqL.of h1, atI_nat (j := 0) rfl, c, _, rfl, .inl (SqL.of h2), i, _, rfl, rfl, _, rfl, ite2 (fun c2 => ?_) (fun c2 => ?_)⟩
        · have hi : i < (ns.length : Nat) := by
            have := of_decide_eq_true c2
            rw [List.length_map] at this
            exact this
          obtain ⟨z, hz⟩ := atI_int i0 hi
          refine ⟨.ref a, rfl, a, _, 0, .ref c, rfl, rfl, SqL.of h1, atI_nat (j := 0) rfl, .ref a, rfl, a, _, 1, .int i, rfl, rfl, SqL.of h1, atI_nat (j := 1) rfl, c, _, i, .int z, rfl, rfl, SqL.of h2, hz, ?_⟩
          refine ⟨.ref a, rfl, a, _, 1, .int i, rfl, rfl, SqL.of h1, atI_nat (j := 1) rfl, i, 1, rfl, rfl, .ref a, rfl, a, _, 1, 1, rfl, rfl, h1, rfl, ?_⟩
          refine ⟨.ref a, rfl, a, _, 2, 2, rfl, rfl, upd_same, rfl, ?_⟩
          refine ⟨.int z, rfl, 10, 18, rfl, rfl, ⟨by decide, by decide, by decide⟩, z, _, rfl, rfl, _, rfl, ite2 (fun c3 => ?_) (fun c3 => ?_)⟩
          · have z0 : (10 : Int) ^ (18 : Int).toNat ≤ z := of_decide_eq_true c3
            have z1 : (0 : Int) ≤ z := Int.le_trans (by decide) z0
            refine ⟨.int z, rfl, .ref a, rfl, a, _, 2, 2, rfl, rfl, upd_same, rfl, ?_⟩
            exact ⟨_, i + 1, z, m, t, rfl, Kp.put.trans (Kp.put.trans Kp.put), upd_same, by omega, z1, m0, m1⟩
          · refine ⟨.ref a, rfl, a, _, 3, .int m, rfl, rfl, SqL.of upd_same, atI_nat (j := 3) rfl, m, 48271, rfl, rfl, .inr ⟨by decide, by decide⟩, .int z, rfl, z, 1000000007, rfl, rfl, (by show (0 : Int) < 1000000007; decide), _, 69621, rfl, rfl, .inr ⟨by decide, by decide⟩, _, _, rfl, rfl, _, 11, rfl, rfl, _, 2147483647, rfl, rfl, (by show (0 : Int) < 2147483647; decide), .ref a, rfl, a, _, 3, 3, rfl, rfl, upd_same, rfl, ?_⟩
            exact ⟨_, i + 1, 0, _, t, rfl, Kp.put.trans (Kp.put.trans Kp.put), upd_same, by omega, by decide, Int.emod_nonneg _ (by decide), Int.emod_lt_of_pos _ (by decide)⟩
        · exact ⟨none, i, b, m, t, rfl, Kp.refl _ _, h1, i0, b0, m0, m1⟩
      · exact ⟨none, i, b, m, t, rfl, Kp.refl _ _, h1, i0, b0, m0, m1⟩
    · rintro σ' H' ⟨y2, i, b, m, t, rfl, kp, g1, i0, b0, m0, m1⟩
      have g2 : H' c = some (.lst (ns.map V.int)) := kp _ _ hca h2
      refine ⟨.ref a, rfl, a, _, 2, .int b, rfl, rfl, SqL.of g1, atI_nat (j := 2) rfl, .int n, rfl, b, n, rfl, rfl, _, rfl, ite2 (fun c1 => ?_) (fun c1 => ?_)⟩
      · refine ⟨.ref a, rfl, a, _, 2, .int b, rfl, rfl, SqL.of g1, atI_nat (j := 2) rfl, .int n, rfl, b, n, rfl, rfl, (by show (0 : Int) < n; omega), ?_⟩
        refine ⟨.ref a, rfl, a, _, 2, .int b, rfl, rfl, SqL.of g1, atI_nat (j := 2) rfl, .int n, rfl, b, n, rfl, rfl, wide_div (b := 100) (by omega) (by omega) (by decide) (by decide), .ref a, rfl, a, _, 2, 2, rfl, rfl, g1, rfl, ?_⟩
        refine ⟨_, rfl, q _ _ (Int.emod_nonneg _ (by omega)) (Int.emod_lt_of_pos _ (by omega)) (kp.trans Kp.put) ⟨ns, i, _, m, t, upd_same, ?_, i0, Int.ediv_nonneg b0 (by omega), m0, m1⟩⟩
        rw [upd_ne hca]
        exact g2
      · refine ⟨.ref a, rfl, a, _, 4, .int t, rfl, rfl, SqL.of g1, atI_nat (j := 4) rfl, t, 1, rfl, rfl, .ref a, rfl, a, _, 4, 4, rfl, rfl, g1, rfl, ?_⟩
        refine ⟨.ref a, rfl, a, _, 3, .int m, rfl, rfl, SqL.of upd_same, atI_nat (j := 3) rfl, ?_⟩
        refine ⟨.int m, rfl, .int m, rfl, m, m, rfl, rfl, .inl ⟨by omega, by omega⟩, _, 2147483587, rfl, rfl, (by show (0 : Int) < 2147483587; decide), _, 16807, rfl, rfl, .inr ⟨by decide, by decide⟩, .int m, rfl, m, 48271, rfl, rfl, .inr ⟨by decide, by decide⟩, _, _, rfl, rfl, .ref a, rfl, a, _, 4, .int (t + 1), rfl, rfl, SqL.of upd_same, atI_nat (j := 4) rfl, 97, t + 1, rfl, rfl, .inl ⟨by decide, by decide⟩, _, _, rfl, rfl, _, 12345, rfl, rfl, ?_⟩
        refine ⟨_, rfl, _, 2147483647, rfl, rfl, (by show (0 : Int) < 2147483647; decide), .ref a, rfl, a, _, 3, 3, rfl, rfl, upd_same, rfl, ?_⟩
        refine ⟨.ref a, rfl, a, _, 3, _, rfl, rfl, SqL.of upd_same, atI_nat (j := 3) rfl, _, 64, rfl, rfl, ⟨by decide, by decide⟩, .ref a, rfl, a, _, 3, _, rfl, rfl, SqL.of upd_same, atI_nat (j := 3) rfl, _, 4093, rfl, rfl, (by show (0 : Int) < 4093; decide), _, 31, rfl, rfl, .inr ⟨by decide, by decide⟩, _, _, rfl, rfl, .int n, rfl, _, n, rfl, rfl, (by show (0 : Int) < n; omega), ?_⟩
        refine q _ _ (Int.emod_nonneg _ (by omega)) (Int.emod_lt_of_pos _ (by omega)) (kp.trans (Kp.put.trans Kp.put)) ⟨ns, i, b, _, t + 1, upd_same, ?_, i0, b0, Int.emod_nonneg _ (by decide), Int.emod_lt_of_pos _ (by decide)⟩
        rw [upd_ne hca, upd_ne hca]
        exact g2
end
end HL

namespace HL
open PySem PySem.Spec PyProof.Rows L2
open C8 (pss_cut)
/-- a def of the module as its callers take it -/
structure Cal (P : Program) (w : World) (K : PySem.W.Frag) (mg : Str → Option Value) (base : Heap) (CX : CXT) (j : Nat) (x : Str) (ps : List Str) (sp : Sp) : Prop where
  ex : ∃ f fd, FnOk P w K mg base CX j f fd ps sp ∧ mg x = some (.ref f) ∧ PySem.W.keepIn K (.ref f) = true ∧ Binds K fd ps []
section
variable {P : Program} {w : World} {K : PySem.W.Frag} {mg : Str → Option Value} {base : Heap}
/-! ### pick -/
def spPick : Sp := fun vs H Q _ => ∃ (f c r : Addr) (xs : List V), vs = [.ref f, .ref r] ∧ H r = some (.lst xs) ∧ r ≠ f ∧ 1 ≤ xs.length ∧ xs.length ≤ 1000 ∧ FeedAt c H f ∧
  ∀ v H', v ∈ xs → Kp f H H' → FeedAt c H' f → Q v H'
theorem atI_mem {xs : List V} {i : Int} (h0 : 0 ≤ i) (h1 : i < (xs.length : Nat)) : ∃ z, atI xs i = some z ∧ z ∈ xs ∧ xs[i.toNat]? = some z := by
  have hl : i.toNat < xs.length := by omega
  have e : ((i.toNat : Nat) : Int) = i := by omega
  exact ⟨xs[i.toNat], (congrArg (atI xs) e.symm).trans (atI_nat (j := i.toNat) (List.getElem?_eq_getElem hl)), List.getElem_mem hl, List.getElem?_eq_getElem hl⟩
theorem ok_pick {f : Addr} {fd : FuncData} (F : Fun K "_law_pick" "_law_pick" sPick f fd) (ml : mg "len" = none) (CD : Cal P w K mg base CX0 1 "_law_draw" ["_law_feed_here", "_law_many"] spDraw) :
    FnOk P w K mg base CX0 2 f fd ["_law_feed_here", "_law_row"] spPick := by
  obtain ⟨fD, fdD, GD, gD, kD, bD⟩ := CD.ex
  refine F.ok scPick (fun vs H Q E h => ?_) (fun cdv A outer s H vs Q E hr h => ?_)
  · obtain ⟨a, c, r, xs, rfl, _⟩ := h
    rfl
  · obtain ⟨a, c, r, xs, rfl, hx, hne, l1, l2, Fd, q⟩ := h
    refine ⟨_, pss_one (ps_ret (pe_ix ix_list (pv 1) (pe_call GD hr (by rfl) gD kD bD .nil pass0 (pa_cons (pv 0) (pa_cons (pe_callB call_len_seq (by rfl) ml PySem.boot_len (pa_cons (pv 1) pa_nil)) pa_nil))) (fun _ _ => rfl))), ?_⟩
    refine ⟨.ref r, rfl, .ref a, rfl, .ref r, rfl, r, xs, rfl, .inl (SqL.of hx), a, c, (xs.length : Nat), rfl, by omega, by omega, Fd, fun d H' d0 d1 kp F' => ?_⟩
    obtain ⟨z, hz, hm, _⟩ := atI_mem d0 d1
    exact ⟨r, xs, d, z, rfl, rfl, SqL.of (kp _ _ hne hx), hz, q z H' hm kp F'⟩
/-! ### same -/
def leafV : V → Bool
  | .non => true
  | .bl _ => true
  | .int _ => true
  | .str _ => true
  | _ => false
/-- alike at depth d: leaves, or lists or tuples of such -/
def Eqd (H : Hp) : Nat → V → V → Prop
  | 0, x, y => x = y ∧ leafV x = true
  | d + 1, x, y => (x = y ∧ leafV x = true) ∨ ∃ (a b : Addr) (xs ys : List V), x = .ref a ∧ y = .ref b ∧ ((H a = some (.lst xs) ∧ H b = some (.lst ys)) ∨ (H a = some (.tup xs) ∧ H b = some (.tup ys))) ∧
      xs.length = ys.length ∧ xs.length ≤ 1000 ∧ ∀ (i : Nat) (x y : V), xs[i]? = some x → ys[i]? = some y → Eqd H d x y
theorem Eqd.same {H H' : Hp} (s : Same H H') : ∀ {d : Nat} {x y : V}, Eqd H d x y → Eqd H' d x y
  | 0, _, _, h => h
  | d + 1, _, _, .inl h => .inl h
  | d + 1, _, _, .inr ⟨a, b, xs, ys, ex, ey, hs, hl, hz, ih⟩ => .inr ⟨a, b, xs, ys, ex, ey, hs.imp (fun q => ⟨s _ _ q.1, s _ _ q.2⟩) (fun q => ⟨s _ _ q.1, s _ _ q.2⟩), hl, hz, fun i x y h1 h2 => Eqd.same s (ih i x y h1 h2)⟩
def spSame (d : Nat) : Sp := fun vs H Q _ => ∃ x y, vs = [x, y] ∧ Eqd H d x y ∧ ∀ H', Same H H' → Q (.bl true) H'
theorem scSame : FnScope ["_law_found", "_law_due", "_law_at"] ["_law_found", "_law_due"] (defScope sSame) := ⟨rfl, rfl, rfl, by decide +kernel, rfl, by decide +kernel, by decide +kernel⟩
structure Bl (mg : Str → Option Value) : Prop where
  len : mg "len" = none
  list : mg "list" = none
  tuple : mg "tuple" = none
  dict : mg "dict" = none
  str : mg "str" = none
  int : mg "int" = none
  bool : mg "bool" = none
  isinstance : mg "isinstance" = none
  all : mg "all" = none
  range : mg "range" = none
  sum : mg "sum" = none
  min : mg "min" = none
  max : mg "max" = none
  enumerate : mg "enumerate" = none
theorem ok_same_leaf {f : Addr} {fd : FuncData} {k : Nat} (F : Fun K "_law_same" "_law_same" sSame f fd) (B : Bl mg) : FnOk P w K mg base CX0 (k + 1) f fd ["_law_found", "_law_due"] (spSame 0) := by
  refine F.ok scSame (fun vs H Q E h => ?_) (fun cdv A outer s H vs Q E hr h => ?_)
  · obtain ⟨x, y, rfl, _⟩ := h
    rfl
  · obtain ⟨x, y, rfl, ⟨rfl, hlf⟩, q⟩ := h
    refine ⟨_, pss_cons (ps_if (pt_cmpR op_isN (pv 1) pe_non (nomark _)) (pss_one (ps_ret (pe_cmp (pc_isN (pv 0)) rfl))) pss_nil)
      (pss_cons (ps_if (pt_val (pe_callB call_isi (by rfl) B.isinstance (by decide +kernel) (pa_cons (pv 1) (pa_cons (pe_bltn (v := .ty "bool") (by rfl) B.bool (by decide +kernel) rfl) pa_nil))))
          (pss_one (ps_ret (pe_and (pe_callB call_isi (by rfl) B.isinstance (by decide +kernel) (pa_cons (pv 0) (pa_cons (pe_bltn (v := .ty "bool") (by rfl) B.bool (by decide +kernel) rfl) pa_nil))) (pe_one (pe_cmpR op_eq (pv 0) (pv 1) (nomark _)))))) pss_nil)
      (pss_cons (ps_if (pt_val (pe_callB call_isi (by rfl) B.isinstance (by decide +kernel) (pa_cons (pv 1) (pa_cons (pe_bltn (v := .ty "int") (by rfl) B.int (by decide +kernel) rfl) pa_nil))))
          (pss_one (ps_ret (pe_and (pe_callB call_isi (by rfl) B.isinstance (by decide +kernel) (pa_cons (pv 0) (pa_cons (pe_bltn (v := .ty "int") (by rfl) B.int (by decide +kernel) rfl) pa_nil)))
            (pe_and (pe_not (pe_callB call_isi (by rfl) B.isinstance (by decide +kernel) (pa_cons (pv 0) (pa_cons (pe_bltn (v := .ty "bool") (by rfl) B.bool (by decide +kernel) rfl) pa_nil)))) (pe_one (pe_cmpR op_eq (pv 0) (pv 1) (nomark _))))))) pss_nil)
      (pss_cons (ps_if (pt_val (pe_callB call_isi (by rfl) B.isinstance (by decide +kernel) (pa_cons (pv 1) (pa_cons (pe_bltn (v := .ty "str") (by rfl) B.str (by decide +kernel) rfl) pa_nil))))
          (pss_one (ps_ret (pe_and (pe_callB call_isi (by rfl) B.isinstance (by decide +kernel) (pa_cons (pv 0) (pa_cons (pe_bltn (v := .ty "str") (by rfl) B.str (by decide +kernel) rfl) pa_nil))) (pe_one (pe_cmpR op_eq (pv 0) (pv 1) (nomark _)))))) pss_nil)
      pss_never))), ?_⟩
    cases x with
    | non => exact ⟨_, rfl, rfl, _, rfl, iteT ⟨_, rfl, q _ (Same.refl _)⟩⟩
    | bl b =>
      refine ⟨_, rfl, rfl, _, rfl, iteF ?_⟩
      refine ⟨_, rfl, _, _, _, _, true, rfl, .ty "bool", .base (.bl b), kit_ty (by decide +kernel), _, rfl, iteT ?_⟩
      refine ⟨_, rfl, _, _, _, _, true, rfl, .ty "bool", .base (.bl b), kit_ty (by decide +kernel), _, rfl, iteT ?_⟩
      refine ⟨_, rfl, _, rfl, rfl, ?_⟩
      rw [decide_eq_true rfl]
      exact q _ (Same.refl _)
    | int i =>
      refine ⟨_, rfl, rfl, _, rfl, iteF ?_⟩
      refine ⟨_, rfl, _, _, _, _, false, rfl, .ty "bool", .base (.int i), kit_ty (by decide +kernel), _, rfl, iteF ?_⟩
      refine ⟨_, rfl, _, _, _, _, true, rfl, .ty "int", .base (.int i), kit_ty (by decide +kernel), _, rfl, iteT ?_⟩
      refine ⟨_, rfl, _, _, _, _, true, rfl, .ty "int", .base (.int i), kit_ty (by decide +kernel), _, rfl, iteT ?_⟩
      refine ⟨_, rfl, _, _, _, _, false, rfl, .ty "bool", .base (.int i), kit_ty (by decide +kernel), _, rfl, _, rfl, iteT ?_⟩
      refine ⟨_, rfl, _, rfl, rfl, ?_⟩
      rw [decide_eq_true rfl]
      exact q _ (Same.refl _)
    | str z =>
      refine ⟨_, rfl, rfl, _, rfl, iteF ?_⟩
      refine ⟨_, rfl, _, _, _, _, false, rfl, .ty "bool", .base (.str z), kit_ty (by decide +kernel), _, rfl, iteF ?_⟩
      refine ⟨_, rfl, _, _, _, _, false, rfl, .ty "int", .base (.str z), kit_ty (by decide +kernel), _, rfl, iteF ?_⟩
      refine ⟨_, rfl, _, _, _, _, true, rfl, .ty "str", .base (.str z), kit_ty (by decide +kernel), _, rfl, iteT ?_⟩
      refine ⟨_, rfl, _, _, _, _, true, rfl, .ty "str", .base (.str z), kit_ty (by decide +kernel), _, rfl, iteT ?_⟩
      refine ⟨_, rfl, _, rfl, rfl, ?_⟩
      rw [decide_eq_true rfl]
      exact q _ (Same.refl _)
    | byt b => cases hlf
    | flt b => cases hlf
    | ref a => cases hlf
    | ty n => cases hlf

theorem leaf_or {H : Hp} {d : Nat} {x y : V} (h : Eqd H d x y) (hx : leafV x = true) : x = y := by
  cases d with
  | zero => exact h.1
  | succ d =>
    rcases h with h | ⟨a, b, xs, ys, rfl, _⟩
    · exact h.1
    · cases hx
/-- what isinstance tells of a list or tuple that is tracked -/
theorem seq_ty {K : PySem.W.Frag} {H : Hp} {a b : Addr} {xs ys : List V} (h : (H a = some (.lst xs) ∧ H b = some (.lst ys)) ∨ (H a = some (.tup xs) ∧ H b = some (.tup ys))) :
    ∃ (T : String) (bt bl : Bool), TyX K H (.ref a) (.type T) ∧ TyX K H (.ref b) (.type T) ∧ kitB T "bool" = some false ∧ kitB T "int" = some false ∧ kitB T "str" = some false ∧ kitB T "dict" = some false ∧ kitB T "tuple" = some bt ∧ kitB T "list" = some bl := by
  rcases h with ⟨h1, h2⟩ | ⟨h1, h2⟩
  · exact ⟨"list", false, true, .base (.lst h1), .base (.lst h2), by decide +kernel, by decide +kernel, by decide +kernel, by decide +kernel, by decide +kernel, by decide +kernel⟩
  · exact ⟨"tuple", true, false, .base (.tup h1), .base (.tup h2), by decide +kernel, by decide +kernel, by decide +kernel, by decide +kernel, by decide +kernel, by decide +kernel⟩
theorem fnEither {CX : CXT} {k : Nat} {f : Addr} {fd : FuncData} {ps : List Str} {sp sp1 sp2 : Sp} (F1 : FnOk P w K mg base CX k f fd ps sp1) (F2 : FnOk P w K mg base CX k f fd ps sp2) (h : ∀ vs H Q E, sp vs H Q E → sp1 vs H Q E ∨ sp2 vs H Q E) : FnOk P w K mg base CX k f fd ps sp where
  len := fun vs H Q E q => (h vs H Q E q).elim (F1.len vs H Q E) (F2.len vs H Q E)
  run := fun A outer s H args us vs Q E hr e0 hb r q => (h vs H Q E q).elim (F1.run A outer s H args us vs Q E hr e0 hb r) (F2.run A outer s H args us vs Q E hr e0 hb r)
theorem yes {σ : L2.St} {H : Hp} {Q : Bool → Hp → Prop} (h : Q true H) : tYes σ H Q := h
theorem bl_self (b : Bool) : (!decide (V.bl b = V.bl b)) = false := by rw [decide_eq_true rfl]; rfl
theorem ok_same_step {f : Addr} {fd : FuncData} {d : Nat} (F : Fun K "_law_same" "_law_same" sSame f fd) (B : Bl mg) (gS : mg "_law_same" = some (.ref f)) (kS : PySem.W.keepIn K (.ref f) = true) (bS : Binds K fd ["_law_found", "_law_due"] [])
    (G : FnOk P w K mg base CX0 (d + 1) f fd ["_law_found", "_law_due"] (spSame d)) : FnOk P w K mg base CX0 (d + 2) f fd ["_law_found", "_law_due"] (spSame (d + 1)) := by
  have key : FnOk P w K mg base CX0 (d + 2) f fd ["_law_found", "_law_due"] (fun vs H Q _ => ∃ (a b : Addr) (xs ys : List V), vs = [.ref a, .ref b] ∧ ((H a = some (.lst xs) ∧ H b = some (.lst ys)) ∨ (H a = some (.tup xs) ∧ H b = some (.tup ys))) ∧
      xs.length = ys.length ∧ xs.length ≤ 1000 ∧ (∀ (i : Nat) (x y : V), xs[i]? = some x → ys[i]? = some y → Eqd H d x y) ∧ ∀ H', Same H H' → Q (.bl true) H') := by
    refine F.ok scSame (fun vs H Q E h => ?_) (fun cdv A outer s H vs Q E hr h => ?_)
    · obtain ⟨a, b, xs, ys, rfl, _⟩ := h
      rfl
    · obtain ⟨a, b, xs, ys, rfl, hs, hl, hz, hE, q⟩ := h
      refine ⟨_, pss_cons (ps_if (pt_cmpR op_isN (pv 1) pe_non (nomark _)) pss_never pss_nil)
        (pss_cons (ps_if (pt_val (pe_callB call_isi (by rfl) B.isinstance (by decide +kernel) (pa_cons (pv 1) (pa_cons (pe_bltn (v := .ty "bool") (by rfl) B.bool (by decide +kernel) rfl) pa_nil)))) pss_never pss_nil)
        (pss_cons (ps_if (pt_val (pe_callB call_isi (by rfl) B.isinstance (by decide +kernel) (pa_cons (pv 1) (pa_cons (pe_bltn (v := .ty "int") (by rfl) B.int (by decide +kernel) rfl) pa_nil)))) pss_never pss_nil)
        (pss_cons (ps_if (pt_val (pe_callB call_isi (by rfl) B.isinstance (by decide +kernel) (pa_cons (pv 1) (pa_cons (pe_bltn (v := .ty "str") (by rfl) B.str (by decide +kernel) rfl) pa_nil)))) pss_never pss_nil)
        (pss_cons (ps_if (pt_val (pe_callB call_isi (by rfl) B.isinstance (by decide +kernel) (pa_cons (pv 1) (pa_cons (pe_bltn (v := .ty "dict") (by rfl) B.dict (by decide +kernel) rfl) pa_nil)))) pss_never pss_nil)
        (pss_cons (ps_if (PW.pt (pw_or (pt_cmpR op_ne (pe_callB call_isi (by rfl) B.isinstance (by decide +kernel) (pa_cons (pv 1) (pa_cons (pe_bltn (v := .ty "tuple") (by rfl) B.tuple (by decide +kernel) rfl) pa_nil)))
              (pe_callB call_isi (by rfl) B.isinstance (by decide +kernel) (pa_cons (pv 0) (pa_cons (pe_bltn (v := .ty "tuple") (by rfl) B.tuple (by decide +kernel) rfl) pa_nil))) (nomark _))
            (pw_or1 (pt_cmpR op_ne (pe_callB call_isi (by rfl) B.isinstance (by decide +kernel) (pa_cons (pv 1) (pa_cons (pe_bltn (v := .ty "list") (by rfl) B.list (by decide +kernel) rfl) pa_nil)))
              (pe_callB call_isi (by rfl) B.isinstance (by decide +kernel) (pa_cons (pv 0) (pa_cons (pe_bltn (v := .ty "list") (by rfl) B.list (by decide +kernel) rfl) pa_nil))) (nomark _))))) pss_never pss_nil)
        (pss_cons (ps_if (pt_cmpR op_ne (pe_callB call_len_seq (by rfl) B.len PySem.boot_len (pa_cons (pv 0) pa_nil)) (pe_callB call_len_seq (by rfl) B.len PySem.boot_len (pa_cons (pv 1) pa_nil)) (nomark _)) pss_never pss_nil)
        (pss_one (ps_ret (pe_callB (cr_all rfl) (by rfl) B.all (by decide +kernel) (pa_cons
          (pe_lc (own := [("_law_at", 2)]) (g := gName 2) (tt := tYes) rfl scSame.nd (pi_range1 (by rfl) B.range (pa_cons (pe_callB call_len_seq (by rfl) B.len PySem.boot_len (pa_cons (pv 1) pa_nil)) pa_nil))
            (blkOk_by (own := [("_law_at", 2)]) (N := ["_law_found", "_law_due", "_law_at"]) (sc := defScope sSame) (by decide +kernel)) (fun _ _ _ _ _ => pg_name (i := 2) scSame.nd rfl (Or.inl rfl)) (fun _ _ _ _ _ => pts_nil)
            (fun _ _ _ _ _ => pe_call G hr (by rfl) gS kS bS .nil pass0 (pa_cons (pe_ix (r := rIx K) ix_seq (pv 0) (pv 2) (fun _ _ => rfl)) (pa_cons (pe_ix (r := rIx K) ix_seq (pv 1) (pv 2) (fun _ _ => rfl)) pa_nil)))) pa_nil)))))))))), ?_⟩
      obtain ⟨T, bt, bl, ta, tb, k1, k2, k3, k4, k5, k6⟩ := seq_ty (K := K) hs
      refine ⟨.ref b, rfl, rfl, _, rfl, iteF ?_⟩
      refine ⟨.ref b, rfl, _, _, _, _, false, rfl, .ty "bool", tb, kit_ty k1, _, rfl, iteF ?_⟩
      refine ⟨.ref b, rfl, _, _, _, _, false, rfl, .ty "int", tb, kit_ty k2, _, rfl, iteF ?_⟩
      refine ⟨.ref b, rfl, _, _, _, _, false, rfl, .ty "str", tb, kit_ty k3, _, rfl, iteF ?_⟩
      refine ⟨.ref b, rfl, _, _, _, _, false, rfl, .ty "dict", tb, kit_ty k4, _, rfl, iteF ?_⟩
      refine ⟨.ref b, rfl, _, _, _, _, bt, rfl, .ty "tuple", tb, kit_ty k5, .ref a, rfl, _, _, _, _, bt, rfl, .ty "tuple", ta, kit_ty k5, rfl, _, rfl, ?_⟩
      rw [bl_self]
      refine iteF ?_
      refine ⟨.ref b, rfl, _, _, _, _, bl, rfl, .ty "list", tb, kit_ty k6, .ref a, rfl, _, _, _, _, bl, rfl, .ty "list", ta, kit_ty k6, rfl, _, rfl, ?_⟩
      rw [bl_self]
      refine iteF ?_
      have sA : SqL K H a xs ∨ SqT K H a xs := hs.imp (fun q => SqL.of q.1) (fun q => SqT.of q.1)
      have sB : SqL K H b ys ∨ SqT K H b ys := hs.imp (fun q => SqL.of q.2) (fun q => SqT.of q.2)
      refine ⟨.ref a, rfl, a, xs, rfl, sA, .ref b, rfl, b, ys, rfl, sB, rfl, _, rfl, ?_⟩
      rw [hl, decide_eq_true rfl]
      refine iteF ?_
      refine ⟨.ref b, rfl, b, ys, rfl, sB, (ys.length : Nat), rfl, by omega, by omega, fun D nD => ?_⟩
      refine lc_range (lo := 0) (n := ((ys.length : Nat) : Int).toNat) (fun i H' => Same H H' ∧ H' D = some (.lst ((List.replicate i true).map V.bl))) ⟨same_new nD, upd_same⟩ (fun i H' hi ⟨sm, hD⟩ => ?_) (fun H' ⟨sm, hD⟩ => ?_)
      · have hi' : i < ys.length := by omega
        have hx : xs[i]? = some (xs[i]'(by omega)) := List.getElem?_eq_getElem (by omega)
        have hy : ys[i]? = some ys[i] := List.getElem?_eq_getElem hi'
        have ez : (0 : Int) + (i : Nat) = ((i : Nat) : Int) := by omega
        rw [ez]
        have sA' : rIx K (.ref a) (.int ((i : Nat) : Int)) H' = rIx K (.ref a) (.int ((i : Nat) : Int)) H' := rfl
        have rdA : ∀ Q : VK, Q (xs[i]'(by omega)) H' → rIx K (.ref a) (.int ((i : Nat) : Int)) H' Q := fun Q hQ => by
          rcases hs with ⟨h1, _⟩ | ⟨h1, _⟩
          · exact .inl ⟨a, xs, _, _, rfl, rfl, SqL.of (sm _ _ h1), atI_nat hx, hQ⟩
          · exact .inr (.inl ⟨a, xs, _, _, rfl, rfl, SqT.of (sm _ _ h1), atI_nat hx, hQ⟩)
        have rdB : ∀ Q : VK, Q ys[i] H' → rIx K (.ref b) (.int ((i : Nat) : Int)) H' Q := fun Q hQ => by
          rcases hs with ⟨_, h1⟩ | ⟨_, h1⟩
          · exact .inl ⟨b, ys, _, _, rfl, rfl, SqL.of (sm _ _ h1), atI_nat hy, hQ⟩
          · exact .inr (.inl ⟨b, ys, _, _, rfl, rfl, SqT.of (sm _ _ h1), atI_nat hy, hQ⟩)
        refine ⟨rfl, yes (iteT ?_)⟩
        refine ⟨.ref a, rfl, .int ((i : Nat) : Int), rfl, rdA _ ⟨.ref b, rfl, .int ((i : Nat) : Int), rfl, rdB _ ?_⟩⟩
        refine ⟨_, _, rfl, (hE i _ _ hx hy).same sm, fun H2 s2 => ⟨_, s2 _ _ hD, ?_, ?_, ?_⟩⟩
        · rw [List.length_map, List.length_replicate]
          exact small1000 (by omega)
        · exact fun c o e => by
            have nc : c ≠ D := fun z => by rw [z, nD] at e; cases e
            rw [upd_ne nc]
            exact s2 _ _ (sm _ _ e)
        · rw [upd_same, List.replicate_succ', List.map_append]
          rfl
      · refine ⟨D, _, rfl, SqL.of hD, ?_⟩
        have e : (List.replicate ((ys.length : Nat) : Int).toNat true).all id = true := by
          rw [List.all_eq_true]
          intro x hx
          exact (List.eq_of_mem_replicate hx)
        rw [e]
        exact q _ sm
  have leaf : FnOk P w K mg base CX0 (d + 2) f fd ["_law_found", "_law_due"] (spSame 0) := ok_same_leaf F B
  exact fnEither key leaf fun vs H Q E ⟨x, y, ev, h, q⟩ => by
    rcases h with h | ⟨a, b, xs, ys, rfl, rfl, hs, hl, hz, hE⟩
    · exact .inr ⟨x, y, ev, h, q⟩
    · exact .inl ⟨a, b, xs, ys, ev, hs, hl, hz, hE, q⟩
theorem ok_same {f : Addr} {fd : FuncData} (F : Fun K "_law_same" "_law_same" sSame f fd) (B : Bl mg) (gS : mg "_law_same" = some (.ref f)) (bS : Binds K fd ["_law_found", "_law_due"] []) :
    ∀ d : Nat, FnOk P w K mg base CX0 (d + 1) f fd ["_law_found", "_law_due"] (spSame d)
  | 0 => ok_same_leaf F B
  | d + 1 => ok_same_step F B gS F.kp bS (ok_same F B gS bS d)
end
end HL

namespace HL
open PySem PySem.Spec PyProof.Rows L2
open C8 (pss_cut)
/-! ### rows and lots in the heap -/
def Rows (H : Hp) : List Addr → List (List Int) → Prop
  | [], [] => True
  | a :: as, r :: rs => H a = some (.tup (r.map V.int)) ∧ Rows H as rs
  | _, _ => False
theorem Rows.len {H : Hp} : ∀ {as : List Addr} {ll : List (List Int)}, Rows H as ll → as.length = ll.length
  | [], [], _ => rfl
  | a :: as, r :: rs, h => by rw [List.length_cons, List.length_cons, Rows.len h.2]
  | [], _ :: _, h => h.elim
  | _ :: _, [], h => h.elim
theorem Rows.mono {H H' : Hp} : ∀ {as : List Addr} {ll : List (List Int)}, Rows H as ll → (∀ a xs, H a = some (.tup xs) → H' a = some (.tup xs)) → Rows H' as ll
  | [], [], _, _ => True.intro
  | a :: as, r :: rs, h, k => ⟨k _ _ h.1, Rows.mono h.2 k⟩
  | [], _ :: _, h, _ => h.elim
  | _ :: _, [], h, _ => h.elim
theorem Rows.same {H H' : Hp} {as : List Addr} {ll : List (List Int)} (h : Rows H as ll) (s : Same H H') : Rows H' as ll := h.mono fun a xs e => s _ _ e
theorem Rows.kp {H H' : Hp} {f c : Addr} {as : List Addr} {ll : List (List Int)} (h : Rows H as ll) (F : FeedAt c H f) (k : Kp f H H') : Rows H' as ll := h.mono fun a xs e => k _ _ (F.tup e) e
theorem Rows.app {H : Hp} : ∀ {as bs : List Addr} {ll mm : List (List Int)}, Rows H as ll → Rows H bs mm → Rows H (as ++ bs) (ll ++ mm)
  | [], _, [], _, _, h => h
  | a :: as, bs, r :: rs, mm, h, k => ⟨h.1, Rows.app h.2 k⟩
  | [], _, _ :: _, _, h, _ => h.elim
  | _ :: _, _, [], _, h, _ => h.elim
theorem Rows.take {H : Hp} : ∀ {as : List Addr} {ll : List (List Int)} (n : Nat), Rows H as ll → Rows H (as.take n) (ll.take n)
  | [], [], n, _ => by rw [List.take_nil, List.take_nil]; exact True.intro
  | _ :: _, _ :: _, 0, _ => True.intro
  | a :: as, r :: rs, n + 1, h => ⟨h.1, Rows.take n h.2⟩
  | [], _ :: _, _, h => h.elim
  | _ :: _, [], _, h => h.elim
theorem Rows.drop {H : Hp} : ∀ {as : List Addr} {ll : List (List Int)} (n : Nat), Rows H as ll → Rows H (as.drop n) (ll.drop n)
  | [], [], n, _ => by rw [List.drop_nil, List.drop_nil]; exact True.intro
  | _ :: _, _ :: _, 0, h => h
  | a :: as, r :: rs, n + 1, h => Rows.drop n h.2
  | [], _ :: _, _, h => h.elim
  | _ :: _, [], _, h => h.elim
theorem Rows.at {H : Hp} : ∀ {as : List Addr} {ll : List (List Int)} {i : Nat} {a : Addr}, Rows H as ll → as[i]? = some a → ∃ r, ll[i]? = some r ∧ H a = some (.tup (r.map V.int))
  | [], [], _, _, _, e => by simp at e
  | b :: as, r :: rs, 0, a, h, e => by
    have e' : b = a := Option.some.inj e
    subst e'
    exact ⟨r, rfl, h.1⟩
  | b :: as, r :: rs, i + 1, a, h, e => Rows.at (i := i) h.2 e
  | [], _ :: _, _, _, h, _ => h.elim
  | _ :: _, [], _, _, h, _ => h.elim
/-- a lot in the heap -/
def LotAt (H : Hp) (p : Addr) (ll : List (List Int)) : Prop := ∃ as : List Addr, H p = some (.tup (as.map V.ref)) ∧ Rows H as ll
theorem LotAt.same {H H' : Hp} {p : Addr} {ll : List (List Int)} (h : LotAt H p ll) (s : Same H H') : LotAt H' p ll := by
  obtain ⟨as, h1, h2⟩ := h
  exact ⟨as, s _ _ h1, h2.same s⟩
theorem LotAt.kp {H H' : Hp} {f c p : Addr} {ll : List (List Int)} (h : LotAt H p ll) (F : FeedAt c H f) (k : Kp f H H') : LotAt H' p ll := by
  obtain ⟨as, h1, h2⟩ := h
  exact ⟨as, k _ _ (F.tup h1) h1, h2.kp F k⟩
/-- a kind as it should be, of g amounts to m -/
def GoodRow (g m : Int) (r : List Int) : Prop := r.length = g.toNat ∧ (∀ n ∈ r, 0 ≤ n ∧ n ≤ m) ∧ ∃ n ∈ r, 0 < n
theorem pos_of_sum : ∀ {r : List Int}, (∀ n ∈ r, 0 ≤ n) → r.sum ≠ 0 → ∃ n ∈ r, 0 < n
  | [], _, h => absurd rfl h
  | x :: r, h0, h => by
    by_cases hx : 0 < x
    · exact ⟨x, List.mem_cons_self, hx⟩
    · have e : x = 0 := by
        have := h0 x List.mem_cons_self
        omega
      rw [List.sum_cons, e, Int.zero_add] at h
      obtain ⟨n, hn, hp⟩ := pos_of_sum (fun n hn => h0 n (List.mem_cons_of_mem _ hn)) h
      exact ⟨n, List.mem_cons_of_mem _ hn, hp⟩
/-! ### hold -/
theorem scHold : FnScope ["_law_feed_here", "_law_goods", "_law_most", "_law_hold_here", "_law_good"] ["_law_feed_here", "_law_goods", "_law_most"] (defScope sHold) := ⟨rfl, rfl, rfl, by decide +kernel, rfl, by decide +kernel, by decide +kernel⟩
theorem scLot : FnScope ["_law_feed_here", "_law_goods", "_law_kinds", "_law_most", "_law_kind"] ["_law_feed_here", "_law_goods", "_law_kinds", "_law_most"] (defScope sLot) := ⟨rfl, rfl, rfl, by decide +kernel, rfl, by decide +kernel, by decide +kernel⟩
theorem scAny : FnScope ["_law_feed_here"] ["_law_feed_here"] (defScope sAny) := ⟨rfl, rfl, rfl, by decide +kernel, rfl, by decide +kernel, by decide +kernel⟩
section
variable {P : Program} {w : World} {K : PySem.W.Frag} {mg : Str → Option Value} {base : Heap}
def spHold : Sp := fun vs H Q _ => ∃ (f c : Addr) (g m : Int), vs = [.ref f, .int g, .int m] ∧ FeedAt c H f ∧ 1 ≤ g ∧ g ≤ 100 ∧ 1 ≤ m ∧ m ≤ 100 ∧
  ∀ H' p ns, Kp f H H' → FeedAt c H' f → H p = none → H' p = some (.tup (ns.map V.int)) → GoodRow g m ns → Q (.ref p) H'
theorem ok_hold {f : Addr} {fd : FuncData} (F : Fun K "_law_hold" "_law_hold" sHold f fd) (B : Bl mg) (CD : Cal P w K mg base CX0 1 "_law_draw" ["_law_feed_here", "_law_many"] spDraw) :
    FnOk P w K mg base CX0 2 f fd ["_law_feed_here", "_law_goods", "_law_most"] spHold := by
  obtain ⟨fD, fdD, GD, gD, kD, bD⟩ := CD.ex
  refine F.ok scHold (fun vs H Q E h => ?_) (fun cdv A outer s H vs Q E hr h => ?_)
  · obtain ⟨a, c, g, m, rfl, _⟩ := h
    rfl
  · obtain ⟨a, c, g, m, rfl, Fd, g1, g2, m1, m2, q⟩ := h
    refine ⟨_, pss_cons (ps_setLc (i := 3) (own := [("_law_good", 4)]) (g := gName 4) (tt := tYes) rfl scHold.nd rfl rfl (sw_true rfl rfl rfl (by decide +kernel)) (pi_range1 (by rfl) B.range (pa_cons (pv 1) pa_nil))
          (blkOk_by (own := [("_law_good", 4)]) (N := ["_law_feed_here", "_law_goods", "_law_most", "_law_hold_here", "_law_good"]) (sc := defScope sHold) (by decide +kernel)) (fun _ _ _ _ _ => pg_name (i := 4) scHold.nd rfl (Or.inl rfl)) (fun _ _ _ _ _ => pts_nil)
          (fun _ _ _ _ _ => pe_ifExp (pt_cmpR op_gt (pe_call GD hr (by rfl) gD kD bD .nil pass0 (pa_cons (pv 0) (pa_cons pe_int pa_nil))) pe_int (nomark _)) (pe_call GD hr (by rfl) gD kD bD .nil pass0 (pa_cons (pv 0) (pa_cons (pe_op op_add (pv 2) pe_int) pa_nil))) pe_int))
      (pss_cut (ps_if (pt_cmpR op_eq (pe_callB (cr_sum rfl) (by rfl) B.sum (by decide +kernel) (pa_cons (pv 3) pa_nil)) pe_int (nomark _))
          (pss_one (ps_asg (pe_op op_add pe_int (pe_call GD hr (by rfl) gD kD bD .nil pass0 (pa_cons (pv 0) (pa_cons (pv 2) pa_nil)))) (pg_sub (pv 3) (pe_call GD hr (by rfl) gD kD bD .nil pass0 (pa_cons (pv 0) (pa_cons (pv 1) pa_nil))) set_list))) pss_nil)
        (pss_one (ps_ret (pe_callTy call_tuple_of (by rfl) B.tuple (by decide +kernel) (pa_cons (pv 3) pa_nil))))), ?_⟩
    refine ⟨.int g, rfl, g, rfl, by omega, by omega, fun D nD => ?_⟩
    have nDf : D ≠ a := Fd.ne nD
    have nDc : D ≠ c := Fd.neC nD
    refine lc_range (lo := 0) (n := g.toNat) (fun i H' => Kp a H H' ∧ FeedAt c H' a ∧ ∃ ns : List Int, H' D = some (.lst (ns.map V.int)) ∧ ns.length = i ∧ ∀ n ∈ ns, 0 ≤ n ∧ n ≤ m)
      ⟨Kp.new nD, Fd.new nD, [], upd_same, rfl, fun n hn => by cases hn⟩ (fun i H' hi ⟨kp, F', ns, hD, hl, hb⟩ => ?_) (fun H' ⟨kp, F', ns, hD, hl, hb⟩ => ?_)
    · refine ⟨rfl, yes (iteT ?_)⟩
      have more : ∀ (H2 : Hp) (d : Int), Kp a H' H2 → FeedAt c H2 a → 0 ≤ d → d ≤ m → ∃ acc, H2 D = some (.lst acc) ∧ acc.length < sizeLine ∧ Kp a H (upd H2 D (.lst (acc ++ [.int d]))) ∧ FeedAt c (upd H2 D (.lst (acc ++ [.int d]))) a ∧
          ∃ ns : List Int, upd H2 D (.lst (acc ++ [.int d])) D = some (.lst (ns.map V.int)) ∧ ns.length = i + 1 ∧ ∀ n ∈ ns, 0 ≤ n ∧ n ≤ m := fun H2 d k2 F2 d0 d1 => by
        have hD2 := k2 _ _ nDf hD
        refine ⟨_, hD2, ?_, ?_, ?_, ns ++ [d], ?_, ?_, ?_⟩
        · rw [List.length_map]
          exact small1000 (by omega)
        · exact (kp.trans k2).late nD
        · exact F2.put nDf nDc
        · rw [upd_same, List.map_append]
          rfl
        · rw [List.length_append, hl]
          rfl
        · intro n hn
          rcases List.mem_append.mp hn with h | h
          · exact hb n h
          · rw [List.mem_singleton.mp h]
            exact ⟨d0, d1⟩
      refine ⟨.ref a, rfl, a, c, 3, rfl, by decide, by decide, F', fun d1 H1 _ _ k1 F1 => ?_⟩
      refine ⟨d1, 0, rfl, rfl, _, rfl, ite2 (fun _ => ?_) (fun _ => ?_)⟩
      · refine ⟨.ref a, rfl, .int m, rfl, m, 1, rfl, rfl, a, c, m + 1, rfl, by omega, by omega, F1, fun d2 H2 e0 e1 k2 F2 => ?_⟩
        exact more H2 d2 (k1.trans k2) F2 e0 (by omega)
      · exact more H1 0 k1 F1 (by decide) (by omega)
    · -- behind the comprehension
      refine ⟨fun σ' H2 => ∃ ns : List Int, σ' = [some (.ref a), some (.int g), some (.int m), some (.ref D), none] ∧ Kp a H H2 ∧ FeedAt c H2 a ∧ H2 D = some (.lst (ns.map V.int)) ∧ GoodRow g m ns, ?_, ?_⟩
      · refine ⟨.ref D, rfl, D, ns, rfl, SqL.of hD, rfl, _, rfl, ite2 (fun cs => ?_) (fun cs => ?_)⟩
        · refine ⟨.ref a, rfl, .int m, rfl, a, c, m, rfl, by omega, by omega, F', fun d1 H1 e0 e1 k1 F1 => ?_⟩
          refine ⟨1, d1, rfl, rfl, .ref D, rfl, .ref a, rfl, .int g, rfl, a, c, g, rfl, by omega, by omega, F1, fun d2 H2 c0 c1 k2 F2 => ?_⟩
          have hD2 : H2 D = some (.lst (ns.map V.int)) := k2 _ _ nDf (k1 _ _ nDf hD)
          have hj : ixN (ns.map V.int).length d2 = some d2.toNat := by
            unfold ixN
            rw [if_pos c0, if_pos (by rw [List.length_map]; omega)]
          refine ⟨D, _, d2, d2.toNat, rfl, rfl, hD2, hj, ns.set d2.toNat (1 + d1), rfl, ?_, ?_, ?_, ?_, ?_, ?_⟩
          · exact (kp.trans (k1.trans k2)).late nD
          · exact F2.put nDf nDc
          · rw [upd_same, List.map_set]
          · rw [List.length_set]
            exact hl
          · intro n hn
            rcases List.mem_or_eq_of_mem_set hn with h | h
            · exact hb n h
            · rw [h]
              omega
          · exact ⟨1 + d1, List.mem_iff_getElem.mpr ⟨d2.toNat, by rw [List.length_set]; omega, by simp⟩, by omega⟩
        · have hs : ns.sum ≠ 0 := fun z => cs (decide_eq_true (by rw [z]))
          exact ⟨ns, rfl, kp, F', hD, hl, hb, pos_of_sum (fun n hn => (hb n hn).1) hs⟩
      · rintro σ' H2 ⟨ms, rfl, k2, F2, hD2, G2⟩
        refine ⟨.ref D, rfl, D, _, rfl, .inl ⟨SqL.of hD2, fun p np => ?_⟩⟩
        exact q _ p ms (k2.trans (Kp.new np)) (F2.new np) (k2.free (F2.ne np) np) upd_same G2
end
end HL

namespace HL
open PySem PySem.Spec PyProof.Rows L2
open C8 (pss_cut)
section
variable {P : Program} {w : World} {K : PySem.W.Frag} {mg : Str → Option Value} {base : Heap}
/-! ### lots -/
/-- a lot as it should be -/
def GoodLot (g m : Int) (n : Nat) (ll : List (List Int)) : Prop := 1 ≤ ll.length ∧ ll.length ≤ n ∧ ∀ r ∈ ll, GoodRow g m r
def spLot : Sp := fun vs H Q _ => ∃ (f c : Addr) (g kk m : Int), vs = [.ref f, .int g, .int kk, .int m] ∧ FeedAt c H f ∧ 1 ≤ g ∧ g ≤ 100 ∧ 1 ≤ kk ∧ kk ≤ 100 ∧ 1 ≤ m ∧ m ≤ 100 ∧
  ∀ H' p ll, Kp f H H' → FeedAt c H' f → H p = none → LotAt H' p ll → GoodLot g m kk.toNat ll → Q (.ref p) H'
theorem ok_lot {f : Addr} {fd : FuncData} (F : Fun K "_law_lot" "_law_lot" sLot f fd) (B : Bl mg) (CD : Cal P w K mg base CX0 1 "_law_draw" ["_law_feed_here", "_law_many"] spDraw)
    (CH : Cal P w K mg base CX0 2 "_law_hold" ["_law_feed_here", "_law_goods", "_law_most"] spHold) : FnOk P w K mg base CX0 3 f fd ["_law_feed_here", "_law_goods", "_law_kinds", "_law_most"] spLot := by
  obtain ⟨fD, fdD, GD, gD, kD, bD⟩ := CD.ex
  obtain ⟨fH, fdH, GH, gH, kH, bH⟩ := CH.ex
  refine F.ok scLot (fun vs H Q E h => ?_) (fun cdv A outer s H vs Q E hr h => ?_)
  · obtain ⟨a, c, g, kk, m, rfl, _⟩ := h
    rfl
  · obtain ⟨a, c, g, kk, m, rfl, Fd, g1, g2, n1, n2, m1, m2, q⟩ := h
    refine ⟨_, pss_one (ps_ret (pe_callTy call_tuple_of (by rfl) B.tuple (by decide +kernel) (pa_cons
      (pe_lc (own := [("_law_kind", 4)]) (g := gName 4) (tt := tYes) rfl scLot.nd (pi_range1 (by rfl) B.range (pa_cons (pe_op op_add pe_int (pe_call GD (hr.mono (by decide)) (by rfl) gD kD bD .nil pass0 (pa_cons (pv 0) (pa_cons (pv 2) pa_nil)))) pa_nil))
        (blkOk_by (own := [("_law_kind", 4)]) (N := ["_law_feed_here", "_law_goods", "_law_kinds", "_law_most", "_law_kind"]) (sc := defScope sLot) (by decide +kernel)) (fun _ _ _ _ _ => pg_name (i := 4) scLot.nd rfl (Or.inl rfl)) (fun _ _ _ _ _ => pts_nil)
        (fun _ _ _ _ _ => pe_call GH hr (by rfl) gH kH bH .nil pass0 (pa_cons (pv 0) (pa_cons (pv 1) (pa_cons (pv 3) pa_nil))))) pa_nil))), ?_⟩
    refine ⟨.ref a, rfl, .int kk, rfl, a, c, kk, rfl, by omega, by omega, Fd, fun d H1 d0 d1 k1 F1 => ?_⟩
    refine ⟨1, d, rfl, rfl, 1 + d, rfl, by omega, by omega, fun D nD => ?_⟩
    have nDf : D ≠ a := F1.ne nD
    have nDc : D ≠ c := F1.neC nD
    have nD0 : H D = none := k1.free nDf nD
    refine lc_range (lo := 0) (n := (1 + d).toNat) (fun i H' => Kp a H H' ∧ FeedAt c H' a ∧ ∃ (as : List Addr) (ll : List (List Int)), H' D = some (.lst (as.map V.ref)) ∧ Rows H' as ll ∧ ll.length = i ∧ ∀ r ∈ ll, GoodRow g m r)
      ⟨k1.late nD0, F1.new nD, [], [], upd_same, True.intro, rfl, fun n hn => by cases hn⟩ (fun i H' hi ⟨kp, F', as, ll, hD, hR, hl, hb⟩ => ?_) (fun H' ⟨kp, F', as, ll, hD, hR, hl, hb⟩ => ?_)
    · refine ⟨rfl, yes (iteT ?_)⟩
      refine ⟨.ref a, rfl, .int g, rfl, .int m, rfl, a, c, g, m, rfl, F', g1, g2, m1, m2, fun H2 p ns k2 F2 np hp gr => ?_⟩
      have hD2 := k2 _ _ nDf hD
      have nt : ∀ b xs, H2 b = some (.tup xs) → upd H2 D (.lst (as.map V.ref ++ [.ref p])) b = some (.tup xs) := fun b xs e => by
        rw [upd_ne (ne_of e hD2 (fun z => by cases z))]
        exact e
      refine ⟨_, hD2, ?_, (kp.trans k2).late nD0, F2.put nDf nDc, as ++ [p], ll ++ [ns], ?_, ?_, ?_, ?_⟩
      · rw [List.length_map, hR.len]
        exact small1000 (by omega)
      · rw [upd_same, List.map_append]
        rfl
      · exact ((hR.kp F' k2).mono nt).app ⟨nt _ _ hp, True.intro⟩
      · rw [List.length_append, hl]
        rfl
      · intro r hr
        rcases List.mem_append.mp hr with h | h
        · exact hb r h
        · rw [List.mem_singleton.mp h]
          exact gr
    · refine ⟨D, _, rfl, .inl ⟨SqL.of hD, fun p np => ?_⟩⟩
      exact q _ p ll (kp.trans (Kp.new np)) (F'.new np) (kp.free (F'.ne np) np) ⟨as, upd_same, hR.same (same_new np)⟩ ⟨by omega, by omega, hb⟩
def spAny : Sp := fun vs H Q _ => ∃ (f c : Addr), vs = [.ref f] ∧ FeedAt c H f ∧
  ∀ H' p ll g m, Kp f H H' → FeedAt c H' f → H p = none → LotAt H' p ll → 1 ≤ g → g ≤ 3 → 1 ≤ m → m ≤ 6 → GoodLot g m 5 ll → Q (.ref p) H'
theorem ok_any {f : Addr} {fd : FuncData} (F : Fun K "_law_any_lot" "_law_any_lot" sAny f fd) (CD : Cal P w K mg base CX0 1 "_law_draw" ["_law_feed_here", "_law_many"] spDraw)
    (CP : Cal P w K mg base CX0 2 "_law_pick" ["_law_feed_here", "_law_row"] spPick) (CL : Cal P w K mg base CX0 3 "_law_lot" ["_law_feed_here", "_law_goods", "_law_kinds", "_law_most"] spLot) : FnOk P w K mg base CX0 4 f fd ["_law_feed_here"] spAny := by
  obtain ⟨fD, fdD, GD, gD, kD, bD⟩ := CD.ex
  obtain ⟨fP, fdP, GP, gP, kP, bP⟩ := CP.ex
  obtain ⟨fL, fdL, GL, gL, kL, bL⟩ := CL.ex
  refine F.ok scAny (fun vs H Q E h => ?_) (fun cdv A outer s H vs Q E hr h => ?_)
  · obtain ⟨a, c, rfl, _⟩ := h
    rfl
  · obtain ⟨a, c, rfl, Fd, q⟩ := h
    refine ⟨_, pss_one (ps_ret (pe_call GL hr (by rfl) gL kL bL .nil pass0 (pa_cons (pv 0) (pa_cons (pe_op op_add pe_int (pe_call GD (hr.mono (by decide)) (by rfl) gD kD bD .nil pass0 (pa_cons (pv 0) (pa_cons pe_int pa_nil)))) (pa_cons pe_int
      (pa_cons (pe_call GP (hr.mono (by decide)) (by rfl) gP kP bP .nil pass0 (pa_cons (pv 0) (pa_cons (pe_lst (pa_cons pe_int (pa_cons pe_int (pa_cons pe_int (pa_cons pe_int pa_nil))))) pa_nil))) pa_nil)))))), ?_⟩
    refine ⟨.ref a, rfl, .ref a, rfl, a, c, 3, rfl, by decide, by decide, Fd, fun d H1 d0 d1 k1 F1 => ?_⟩
    refine ⟨1, d, rfl, rfl, .ref a, rfl, (by show 4 ≤ sizeLine; decide), fun r nr => ?_⟩
    refine ⟨a, c, r, _, rfl, upd_same, F1.ne nr, by decide, by decide, F1.new nr, fun v H2 hv k2 F2 => ?_⟩
    obtain ⟨m, rfl, m1, m2⟩ : ∃ m : Int, v = .int m ∧ 1 ≤ m ∧ m ≤ 6 := by
      simp only [List.mem_cons, List.mem_nil_iff, or_false] at hv
      rcases hv with h | h | h | h <;> exact ⟨_, h, by decide, by decide⟩
    refine ⟨a, c, 1 + d, 5, m, rfl, F2, by omega, by omega, by decide, by decide, m1, by omega, fun H3 p ll k3 F3 np hL gl => ?_⟩
    have k12 : Kp a H H2 := k1.trans ((Kp.new nr).trans k2)
    exact q H3 p ll (1 + d) m (k12.trans k3) F3 (k12.free (F2.ne np) np) hL (by omega) (by omega) m1 m2 gl
theorem rep_one (v : V) : ∀ n : Nat, (List.replicate n [v]).flatten = List.replicate n v
  | 0 => rfl
  | n + 1 => by
    rw [List.replicate_succ, List.flatten_cons, rep_one v n, List.replicate_succ]
    rfl
end
end HL

namespace HL
open PySem PySem.Spec PyProof.Rows L2
open C8 (pss_cut)
/-! ### what a lot must be -/
def okRow (g : Nat) (r : List Int) : Bool := decide (r.length = g) && (r.all (fun n => decide (0 ≤ n ∧ n ≤ 6)) && r.any (fun n => decide (0 < n)))
def flawIn (g : Nat) (ll : List (List Int)) : Option Int := (ll.findIdx? fun r => !okRow g r).map fun i => (i : Int)
def width (ll : List (List Int)) : Nat := (ll.headD []).length
def flaw (ll : List (List Int)) : Option Int := if 1 ≤ ll.length ∧ ll.length ≤ 5 ∧ 1 ≤ width ll ∧ width ll ≤ 3 then flawIn (width ll) ll else some (-1)
def flawV (ll : List (List Int)) : V := match flaw ll with
  | none => .non
  | some k => .int k
theorem flawIn_at {g : Nat} {ll : List (List Int)} {i : Nat} {r : List Int} (h : ll[i]? = some r) (hb : okRow g r = false) (ha : ∀ (j : Nat) (r' : List Int), j < i → ll[j]? = some r' → okRow g r' = true) : flawIn g ll = some (i : Int) := by
  unfold flawIn
  obtain ⟨hi, he⟩ := List.getElem?_eq_some_iff.mp h
  have e : ll.findIdx? (fun r => !okRow g r) = some i := by
    refine List.findIdx?_eq_some_iff_getElem.mpr ⟨hi, by rw [he, hb]; rfl, fun j hj => ?_⟩
    rw [ha j ll[j] hj (List.getElem?_eq_getElem (by omega))]
    decide
  rw [e]
  rfl
theorem flawIn_none {g : Nat} {ll : List (List Int)} (ha : ∀ (j : Nat) (r' : List Int), j < ll.length → ll[j]? = some r' → okRow g r' = true) : flawIn g ll = none := by
  unfold flawIn
  have e : ll.findIdx? (fun r => !okRow g r) = none := by
    refine List.findIdx?_eq_none_iff.mpr fun r hr => ?_
    obtain ⟨j, hj, hjr⟩ := List.mem_iff_getElem.mp hr
    rw [ha j r hj (by rw [List.getElem?_eq_getElem hj, hjr])]
    rfl
  rw [e]
  rfl
theorem all_in {r : List Int} : (r.all (fun n => decide (0 ≤ n ∧ n ≤ 6))) = true ↔ ∀ n ∈ r, 0 ≤ n ∧ n ≤ 6 := by
  rw [List.all_eq_true]
  exact ⟨fun h n hn => of_decide_eq_true (h n hn), fun h n hn => decide_eq_true (h n hn)⟩
theorem any_pos {r : List Int} : (r.any (fun n => decide (0 < n))) = true ↔ ∃ n ∈ r, 0 < n := by
  rw [List.any_eq_true]
  exact ⟨fun ⟨n, hn, h⟩ => ⟨n, hn, of_decide_eq_true h⟩, fun ⟨n, hn, h⟩ => ⟨n, hn, decide_eq_true h⟩⟩
theorem okRow_iff {g : Nat} {r : List Int} : okRow g r = true ↔ r.length = g ∧ (∀ n ∈ r, 0 ≤ n ∧ n ≤ 6) ∧ ∃ n ∈ r, 0 < n := by
  unfold okRow
  rw [Bool.and_eq_true, Bool.and_eq_true, decide_eq_true_iff, all_in, any_pos]
theorem sum_pos {r : List Int} (h0 : ∀ n ∈ r, 0 ≤ n) (h : ∃ n ∈ r, 0 < n) : 0 < r.sum := by
  induction r with
  | nil => obtain ⟨n, hn, _⟩ := h; cases hn
  | cons x r ih =>
    rw [List.sum_cons]
    have x0 := h0 x List.mem_cons_self
    have rest : 0 ≤ r.sum := by
      clear ih h
      induction r with
      | nil => exact Int.le_refl _
      | cons y r ih2 =>
        rw [List.sum_cons]
        have := h0 y (List.mem_cons_of_mem _ List.mem_cons_self)
        have := ih2 fun n hn => h0 n (by
          rcases List.mem_cons.mp hn with h | h
          · rw [h]; exact List.mem_cons_self
          · exact List.mem_cons_of_mem _ (List.mem_cons_of_mem _ h))
        omega
    obtain ⟨n, hn, hp⟩ := h
    rcases List.mem_cons.mp hn with h | h
    · omega
    · have := ih (fun n hn => h0 n (List.mem_cons_of_mem _ hn)) ⟨n, h, hp⟩
      omega
/-- 1 <= x <= 5 as a test -/
theorem chainI {i j L : Int} {H : Hp} {Q : Bool → Hp → Prop} (h : Q (decide (i ≤ L ∧ L ≤ j)) H) :
    if decide (i ≤ L) = true then (∃ a b : Int, V.int L = V.int a ∧ V.int j = V.int b ∧ ∃ k, V.bl (decide (a ≤ b)) = V.bl k ∧ Q k H) else ∃ k, V.bl false = V.bl k ∧ Q k H := by
  by_cases c : i ≤ L
  · rw [if_pos (decide_eq_true c)]
    refine ⟨L, j, rfl, rfl, _, rfl, ?_⟩
    rw [show decide (L ≤ j) = decide (i ≤ L ∧ L ≤ j) by simp [c]]
    exact h
  · rw [if_neg (fun z => c (of_decide_eq_true z))]
    refine ⟨false, rfl, ?_⟩
    rw [show false = decide (i ≤ L ∧ L ≤ j) by simp [c]]
    exact h
theorem Rows.head {H : Hp} {as : List Addr} {ll : List (List Int)} (h : Rows H as ll) (hl : 1 ≤ ll.length) : ∃ a, as[0]? = some a ∧ H a = some (.tup ((ll.headD []).map V.int)) ∧ (ll.headD []).length = width ll := by
  cases as with
  | nil =>
    cases ll with
    | nil => simp at hl
    | cons r rs => exact h.elim
  | cons a as =>
    cases ll with
    | nil => simp at hl
    | cons r rs => exact ⟨a, rfl, h.1, rfl⟩
end HL

namespace HL
open PySem PySem.Spec PyProof.Rows L2
open C8 (pss_cut)
/-! ### the refusal -/
abbrev sBadInit : Stmt := inClass (topS 3) 0
theorem scBI : FnScope ["self", "kind"] ["self", "kind"] (defScope sBadInit) := ⟨rfl, rfl, rfl, by decide +kernel, rfl, by decide +kernel, by decide +kernel⟩
/-- what is known of a refusal's class whose __init__ stores a word and a field -/
structure Cls2 (K : PySem.W.Frag) (C : Addr) (f : Str) : Prop where
  ox : OexC K C
  noW : PySem.W.findIn K (.ref C) "word" = some none
  noF : PySem.W.findIn K (.ref C) f = some none
abbrev exF (f wd : Str) (v : V) : List (Str × V) := [(f, v), ("word", .str wd)]
def spInit2 (C : Addr) (f wd : Str) : Sp := fun vs H Q _ => ∃ (a : Addr) (v : V), vs = [.ref a, v] ∧ H a = some (exo a C none) ∧
  ∀ dx, H dx = none → dx ≠ a → Q .non (upd (upd (upd H dx (exd dx [("word", .str wd)])) a (exo a C (some dx))) dx (exd dx (exF f wd v)))
section
variable {P : Program} {w : World} {K : PySem.W.Frag} {mg : Str → Option Value} {base : Heap}
theorem ok_badInit {f : Addr} {fd : FuncData} {k : Nat} {C : Addr} (F : Fun K "__init__" "BadLot.__init__" sBadInit f fd) (T : Cls2 K C "kind") : FnOk P w K mg base CX0 (k + 1) f fd ["self", "kind"] (spInit2 C "kind" "bad lot") := by
  refine F.ok scBI (fun vs H Q E h => ?_) (fun cdv A outer s H vs Q E hr h => ?_)
  · obtain ⟨a, v, rfl, _⟩ := h
    rfl
  · obtain ⟨a, v, rfl, ha, q⟩ := h
    refine ⟨_, pss_cons (ps_ost (pv 0) pe_str) (pss_one (ps_ost (pv 0) (pv 1))), ?_⟩
    refine ⟨.ref a, rfl, a, C, rfl, T.ox, T.noW, .inl ⟨ha, fun dx nd ne => ?_⟩⟩
    refine ⟨v, rfl, .ref a, rfl, a, C, rfl, T.ox, T.noF, .inr ⟨dx, _, upd_same, ?_, (by show 1 ≤ 900; decide), q dx nd ne⟩⟩
    rw [upd_ne ne, upd_same]
/-- the heap behind a refusal that was made -/
theorem xd_same {H : Hp} {a dx : Addr} {o1 o2 o3 o4 o5 : HO} (na : H a = none) (nd : H dx = none) : Same H (upd (del (upd (upd (upd (upd H a o1) dx o2) a o3) dx o4) a) dx o5) := fun b o e => by
  have n1 := ne_of_none e na
  have n2 := ne_of_none e nd
  rw [upd_ne n2, del_ne n1, upd_ne n2, upd_ne n1, upd_ne n2, upd_ne n1]
  exact e
/-- refused with the class at C, field f holding v -/
def Refd (C : Addr) (f wd : Str) (v : V) (H : Hp) (E : XK) : Prop := ∀ H' d, Same H H' → H d = none → H' d = some (.xd (exF f wd v)) → E (.ref C) (some d) H'
theorem Refd.same {C : Addr} {f wd : Str} {v : V} {H H1 : Hp} {E : XK} (h : Refd C f wd v H E) (s : Same H H1) : Refd C f wd v H1 E := fun H' d s' n e => h H' d (s.trans s') (s.free n) e
/-- raise C(v): its reading from what is wanted -/
theorem mk_refd {C : Addr} {f wd : Str} {v : V} {H : Hp} {E : XK} (h : Refd C f wd v H E) : [v].length ≤ 1000 ∧ ∀ a, H a = none → spInit2 C f wd (.ref a :: ([v] ++ [])) (upd H a (exo a C none))
    (fun u H2 => u = .non ∧ ∃ (d : Addr) (fs : List (Str × V)), H2 a = some (exo a C (some d)) ∧ H2 d = some (exd d fs) ∧ H d = none ∧ E (.ref C) (some d) (upd (del H2 a) d (.xd fs))) (fun _ _ _ => False) := by
  refine ⟨(by show 1 ≤ 1000; decide), fun a na => ⟨a, v, rfl, upd_same, fun dx nd ne => ⟨rfl, dx, exF f wd v, ?_, upd_same, ?_, ?_⟩⟩⟩
  · rw [upd_ne (Ne.symm ne), upd_same]
  · rw [upd_ne ne] at nd
    exact nd
  · rw [upd_ne ne] at nd
    exact h _ dx (xd_same na nd) nd upd_same
/-! ### is_hold -/
theorem scIH : FnScope ["hold", "goods", "amount"] ["hold", "goods"] (defScope sIsHold) := ⟨rfl, rfl, rfl, by decide +kernel, rfl, by decide +kernel, by decide +kernel⟩
theorem scLk : FnScope ["lot", "kind", "hold"] ["lot"] (defScope sLook) := ⟨rfl, rfl, rfl, by decide +kernel, rfl, by decide +kernel, by decide +kernel⟩
/-- 0 <= x <= 6 as a value -/
theorem chainV {i j L : Int} {H : Hp} {σ : L2.St} {Q : VK} (h : Q (.bl (decide (i ≤ L ∧ L ≤ j))) H) :
    if decide (i ≤ L) = true then tC (.int j) σ H (fun v H4 => rI0 (fun i j => V.bl (decide (i ≤ j))) (.int L) v H4 Q) else Q (.bl false) H := by
  by_cases c : i ≤ L
  · rw [if_pos (decide_eq_true c)]
    refine ⟨L, j, rfl, rfl, ?_⟩
    show Q (.bl (decide (L ≤ j))) H
    rw [show decide (L ≤ j) = decide (i ≤ L ∧ L ≤ j) by simp [c]]
    exact h
  · rw [if_neg (fun z => c (of_decide_eq_true z))]
    rw [show false = decide (i ≤ L ∧ L ≤ j) by simp [c]]
    exact h
def spIsHold : Sp := fun vs H Q _ => ∃ (a : Addr) (g : Nat) (r : List Int), vs = [.ref a, .int (g : Int)] ∧ H a = some (.tup (r.map V.int)) ∧ r.length ≤ 1000 ∧ 1 ≤ g ∧ ∀ H', Same H H' → Q (.bl (okRow g r)) H'
structure Consts (mg : Str → Option Value) : Prop where
  hold : ∃ t, mg "MOST_HOLD" = some (.int 6 t)
  kinds : ∃ t, mg "MOST_KINDS" = some (.int 5 t)
  goods : ∃ t, mg "MOST_GOODS" = some (.int 3 t)
theorem ok_isHold {f : Addr} {fd : FuncData} {k : Nat} (F : Fun K "is_hold" "is_hold" sIsHold f fd) (B : Bl mg) (M : Consts mg) : FnOk P w K mg base CX0 (k + 1) f fd ["hold", "goods"] spIsHold := by
  obtain ⟨t6, m6⟩ := M.hold
  refine F.ok scIH (fun vs H Q E h => ?_) (fun cdv A outer s H vs Q E hr h => ?_)
  · obtain ⟨a, g, r, rfl, _⟩ := h
    rfl
  · obtain ⟨a, g, r, rfl, ha, hz, g1, q⟩ := h
    refine ⟨_, pss_one (ps_ret (pe_and (pe_cmpR op_eq (pe_callB call_len_seq (by rfl) B.len PySem.boot_len (pa_cons (pv 0) pa_nil)) (pv 1) (nomark _))
      (pe_and (pe_callB (cr_all rfl) (by rfl) B.all (by decide +kernel) (pa_cons (pe_lc (own := [("amount", 2)]) (g := gName 2) (tt := tYes) rfl scIH.nd (pi_tup (pv 0))
          (blkOk_by (own := [("amount", 2)]) (N := ["hold", "goods", "amount"]) (sc := defScope sIsHold) (by decide +kernel)) (fun _ _ _ _ _ => pg_name (i := 2) scIH.nd rfl (Or.inl rfl)) (fun _ _ _ _ _ => pts_nil)
          (fun _ _ _ _ _ => pe_chain op_le op_le pe_int (pv 2) (pe_glob (v := .int 6) rfl m6 ⟨_, rfl⟩))) pa_nil))
        (pe_one (pe_cmpR op_gt (pe_callB (cr_maxT rfl hr.units) (by rfl) B.max (by decide +kernel) (pa_cons (pv 0) pa_nil)) pe_int (nomark _)))))), ?_⟩
    have sA : SqT K H a (r.map V.int) := SqT.of ha
    refine ⟨.ref a, rfl, a, _, rfl, .inr sA, .int (g : Int), rfl, rfl, _, rfl, ?_⟩
    rw [List.length_map]
    refine ite2 (fun c1 => ?_) (fun c1 => ?_)
    · have hl : r.length = g := by
        have := V.int.inj (of_decide_eq_true c1)
        omega
      refine ⟨.ref a, rfl, a, rfl, ⟨_, sA⟩, fun D nD => ?_⟩
      refine lc_tup (K := K) (a := a) (xs := r.map V.int) (fun i H' => Same H H' ∧ H' D = some (.lst (((r.take i).map fun n => decide (0 ≤ n ∧ n ≤ 6)).map V.bl))) ⟨same_new nD, upd_same⟩ (fun i H' _ ⟨sm, _⟩ => SqT.of (sm _ _ ha)) (fun i x H' hx ⟨sm, hD⟩ => ?_) (fun H' ⟨sm, hD⟩ => ?_)
      · obtain ⟨n, hn, rfl⟩ : ∃ n, r[i]? = some n ∧ x = V.int n := by
          rw [List.getElem?_map] at hx
          cases e : r[i]? with
          | none => rw [e] at hx; cases hx
          | some n => rw [e] at hx; exact ⟨n, rfl, (Option.some.inj hx).symm⟩
        refine ⟨rfl, yes (iteT ?_)⟩
        refine ⟨.int n, rfl, 0, n, rfl, rfl, _, rfl, chainV ?_⟩
        refine ⟨_, hD, ?_, same_late sm nD, ?_⟩
        · rw [List.length_map, List.length_map]
          exact small1000 (Nat.le_trans (List.length_take_le' _ _) hz)
        · rw [upd_same, List.take_add_one, hn, List.map_append, List.map_append]
          rfl
      · rw [List.length_map, List.take_length] at hD
        refine ⟨D, _, rfl, SqL.of hD, _, rfl, ?_⟩
        have eall : ((r.map fun n => decide (0 ≤ n ∧ n ≤ 6)).all id) = r.all (fun n => decide (0 ≤ n ∧ n ≤ 6)) := by
          rw [List.all_map]
          rfl
        rw [eall]
        refine ite2 (fun c2 => ?_) (fun c2 => ?_)
        · refine ⟨.ref a, rfl, a, r, rfl, SqT.of (sm _ _ ha), by omega, fun mx hmx hmax => ?_⟩
          refine ⟨mx, 0, rfl, rfl, ?_⟩
          have e : decide ((0 : Int) < mx) = okRow g r := by
            unfold okRow
            rw [decide_eq_true hl, c2, Bool.true_and, Bool.true_and]
            by_cases z : 0 < mx
            · rw [decide_eq_true z, any_pos.mpr ⟨mx, hmx, z⟩]
            · rw [decide_eq_false z]
              cases y : r.any (fun n => decide (0 < n)) with
              | false => rfl
              | true =>
                obtain ⟨n, hn, h0⟩ := any_pos.mp y
                have := hmax n hn
                omega
          have q1 := q H' sm
          rw [← e] at q1
          exact q1
        · have e : okRow g r = false := by
            unfold okRow
            rw [Bool.eq_false_iff.mpr c2, Bool.false_and, Bool.and_false]
          have q1 := q H' sm
          rw [e] at q1
          exact q1
    · have e : okRow g r = false := by
        unfold okRow
        rw [decide_eq_false (fun z => c1 (decide_eq_true (by rw [z]))), Bool.false_and]
      have q1 := q H (Same.refl _)
      rw [e] at q1
      exact q1
/-! ### look_lot -/
def spLook (C : Addr) : Sp := fun vs H Q E => ∃ (p : Addr) (ll : List (List Int)), vs = [.ref p] ∧ LotAt H p ll ∧ ll.length ≤ 200 ∧ (∀ r ∈ ll, r.length ≤ 200) ∧
  (flaw ll = none → ∀ H', Same H H' → Q .non H') ∧ ∀ k, flaw ll = some k → Refd C "kind" "bad lot" (.int k) H E
/-- BadLot as it stands: its class, its __init__ -/
structure BadTxt (P : Program) (w : World) (K : PySem.W.Frag) (mg : Str → Option Value) (base : Heap) (x : Str) (C : Addr) (f wd : Str) : Prop where
  c2 : Cls2 K C f
  gC : mg x = some (.ref C)
  ini : ∃ (fI : Addr) (fd : FuncData), PySem.W.findIn K (.ref C) "__init__" = some (some (.ref fI)) ∧ PySem.W.typeIn K (.ref fI) = some (.type "function") ∧
    FnOk P w K mg base CX0 1 fI fd ["self", f] (spInit2 C f wd) ∧ Binds K fd ["self", f] []
theorem ok_look {f : Addr} {fd : FuncData} {C : Addr} (F : Fun K "look_lot" "look_lot" sLook f fd) (B : Bl mg) (M : Consts mg) (T : BadTxt P w K mg base "BadLot" C "kind" "bad lot") (CH : Cal P w K mg base CX0 1 "is_hold" ["hold", "goods"] spIsHold) :
    FnOk P w K mg base (L2N.CX P w) 3 f fd ["lot"] (spLook C) := by
  obtain ⟨t5, m5⟩ := M.kinds
  obtain ⟨t3, m3⟩ := M.goods
  obtain ⟨fH, fdH, GH, gH, kH, bH⟩ := CH.ex
  obtain ⟨fI, fdI, iC, tI, GI, bI⟩ := T.ini
  refine F.okN scLk (fun vs H Q E h => ?_) (fun cdv A outer s H vs Q E hr h => ?_)
  · obtain ⟨p, ll, rfl, _⟩ := h
    rfl
  · obtain ⟨p, ll, rfl, ⟨as, hp, hR⟩, hz, hz2, q0, q1⟩ := h
    have hlen := hR.len
    refine ⟨_, pss_cons (ps_if (PW.pt (pw_or (pt_not (pt_chain op_le op_le pe_int (pe_callB call_len_seq (by rfl) B.len PySem.boot_len (pa_cons (pv 0) pa_nil)) (pe_glob (v := .int 5) rfl m5 ⟨_, rfl⟩)))
          (pw_or1 (pt_not (pt_chain op_le op_le pe_int (pe_callB call_len_seq (by rfl) B.len PySem.boot_len (pa_cons (pe_ix ix_tup (pv 0) pe_int (fun _ _ => rfl)) pa_nil)) (pe_glob (v := .int 3) rfl m3 ⟨_, rfl⟩))))))
          (pss_one (L2N.ps_raise rfl (L2N.takes_of rfl rfl rfl rfl) (H33.pmkN_oex T.c2.ox iC tI GI hr bI pass0 (by rfl) T.gC (pa_cons (pe_un un_neg pe_int) pa_nil)))) pss_nil)
      (pss_one (ps_for (passes_of rfl) rfl (pi_enumT (by rfl) B.enumerate (pa_cons (pv 0) pa_nil)) (pg_tup rfl (pgs_cons (pg_name (i := 1) scLk.nd rfl (.inl rfl)) (pgs_cons (pg_name (i := 2) scLk.nd rfl (.inl rfl)) pgs_nil)))
        (pss_one (ps_if (pt_not (pt_val (pe_call GH (hr.mono (by decide)) (by rfl) gH kH bH .nil pass0 (pa_cons (pv 2) (pa_cons (pe_callB call_len_seq (by rfl) B.len PySem.boot_len (pa_cons (pe_ix ix_tup (pv 0) pe_int (fun _ _ => rfl)) pa_nil)) pa_nil)))))
          (pss_one (L2N.ps_raise rfl (L2N.takes_of rfl rfl rfl rfl) (H33.pmkN_oex T.c2.ox iC tI GI hr bI pass0 (by rfl) T.gC (pa_cons (pv 1) pa_nil)))) pss_nil)))), ?_⟩
    have sP : SqT K H p (as.map V.ref) := SqT.of hp
    refine ⟨.ref p, rfl, p, _, rfl, .inr sP, 1, _, rfl, rfl, _, rfl, chainI ?_⟩
    rw [List.length_map, hlen]
    refine ite2 (fun c1 => iteT ?_) (fun c1 => ?_)
    · have e : flaw ll = some (-1) := by
        unfold flaw
        rw [if_neg (fun z => ?_)]
        simp at c1
        omega
      exact ⟨1, rfl, mk_refd (q1 _ e)⟩
    · have c1' : 1 ≤ ll.length ∧ ll.length ≤ 5 := by
        simp at c1
        omega
      obtain ⟨a0, ha0, hh0, hw⟩ := hR.head c1'.1
      have at0 : atI (as.map V.ref) 0 = some (.ref a0) := atI_nat (j := 0) (by rw [List.getElem?_map, ha0]; rfl)
      refine ⟨.ref p, rfl, p, _, 0, .ref a0, rfl, rfl, sP, at0, a0, _, rfl, .inr (SqT.of hh0), 1, _, rfl, rfl, _, rfl, chainI ?_⟩
      rw [List.length_map, hw]
      refine ite2 (fun c2 => ?_) (fun c2 => ?_)
      · have e : flaw ll = some (-1) := by
          unfold flaw
          rw [if_neg (fun z => ?_)]
          simp at c2
          omega
        exact ⟨1, rfl, mk_refd (q1 _ e)⟩
      · have c2' : 1 ≤ width ll ∧ width ll ≤ 3 := by
          simp at c2
          omega
        have eF : flaw ll = flawIn (width ll) ll := by
          unfold flaw
          rw [if_pos ⟨c1'.1, c1'.2, c2'.1, c2'.2⟩]
        refine ⟨.ref p, rfl, p, _, rfl, sP, ?_⟩
        refine ⟨fun i m σ H' => i + m = as.length ∧ Same H H' ∧ (∃ y1 y2, σ = [some (.ref p), y1, y2]) ∧ ∀ (j : Nat) (r' : List Int), j < i → ll[j]? = some r' → okRow (width ll) r' = true,
          ⟨as.length, by omega, Same.refl _, ⟨none, none, rfl⟩, fun j r' hj => absurd hj (Nat.not_lt_zero j)⟩, fun i m σ H' hW => ?_⟩
        obtain ⟨em, sm, ⟨y1, y2, rfl⟩, ih⟩ := hW
        have sP' : SqT K H' p (as.map V.ref) := SqT.of (sm _ _ hp)
        by_cases hi : i < as.length
        · have hai : as[i]? = some as[i] := List.getElem?_eq_getElem hi
          obtain ⟨r, hr1, hr2⟩ := hR.at hai
          have g1 : (as.map V.ref)[i]? = some (.ref as[i]) := by rw [List.getElem?_map, hai]; rfl
          refine .inr ⟨⟨_, _, sP', g1⟩, fun σ' H2 => Same H H2 ∧ (∃ y1 y2, σ' = [some (.ref p), y1, y2]) ∧ okRow (width ll) r = true, fun σ' H2 hN => ?_, fun x H2 hy => ?_⟩
          · obtain ⟨s2, hσ, hk⟩ := hN
            refine ⟨m - 1, by omega, by omega, s2, hσ, fun j r' hj hjr => ?_⟩
            by_cases hji : j < i
            · exact ih j r' hji hjr
            · have e : j = i := by omega
              subst e
              rw [hr1] at hjr
              cases hjr
              exact hk
          · obtain ⟨T2, x2, rfl, nT, rfl, f2⟩ := hy
            have ex2 : x2 = .ref as[i] := Option.some.inj ((f2 _ sP').symm.trans g1)
            subst ex2
            have s3 : Same H (upd H' T2 (.tup [.int (i : Nat), .ref as[i]])) := sm.trans (same_new nT)
            refine ⟨T2, _, rfl, SqT.of upd_same, rfl, _, _, rfl, _, _, rfl, rfl, ?_⟩
            refine ⟨.ref as[i], rfl, .ref p, rfl, p, _, 0, .ref a0, rfl, rfl, SqT.of (s3 _ _ hp), at0, a0, _, rfl, .inr (SqT.of (s3 _ _ hh0)), as[i], width ll, r, ?_, s3 _ _ hr2, Nat.le_trans (hz2 r (List.mem_of_getElem? hr1)) (by decide), c2'.1, fun H4 s4 => ⟨_, rfl, ?_⟩⟩
            · rw [List.length_map, hw]
              rfl
            · refine ite2 (fun d1 => ?_) (fun d1 => ?_)
              · have hb : okRow (width ll) r = false := by
                  cases e : okRow (width ll) r with
                  | false => rfl
                  | true => rw [e] at d1; cases d1
                refine ⟨_, rfl, mk_refd ?_⟩
                exact (q1 _ (eF.trans (flawIn_at hr1 hb ih))).same (s3.trans s4)
              · refine ⟨s3.trans s4, ⟨_, _, rfl⟩, ?_⟩
                cases e : okRow (width ll) r with
                | true => rfl
                | false => rw [e] at d1; exact absurd rfl d1
        · refine .inl ⟨⟨_, sP', ?_⟩, ?_⟩
          · rw [List.length_map]
            omega
          · exact q0 (eF.trans (flawIn_none fun j r' hj => ih j r' (by omega))) H' sm
theorem flaw_ok {ll : List (List Int)} (h : flaw ll = none) : 1 ≤ ll.length ∧ ll.length ≤ 5 ∧ 1 ≤ width ll ∧ width ll ≤ 3 := by
  unfold flaw at h
  by_cases c : 1 ≤ ll.length ∧ ll.length ≤ 5 ∧ 1 ≤ width ll ∧ width ll ≤ 3
  · exact c
  · rw [if_neg c] at h
    cases h
end
end HL

namespace HL
open PySem PySem.Spec PyProof.Rows L2
open C8 (pss_cut)
/-! ### tuples cut and joined -/
theorem sz1000 {n : Nat} (h : n ≤ 1000) : n ≤ sizeLine := Nat.le_of_lt (small1000 h)
theorem cat_read {K : PySem.W.Frag} {H : Hp} {a b : Addr} {xs ys : List V} {Q : VK} (ha : H a = some (.tup xs)) (hb : H b = some (.tup ys)) (hz : xs.length + ys.length ≤ 1000)
    (q : ∀ p H', Same H H' → H' p = some (.tup (xs ++ ys)) → Q (.ref p) H') : rCatA K (.ref a) (.ref b) H Q := by
  refine ⟨a, b, xs, ys, rfl, rfl, SqT.of ha, SqT.of hb, sz1000 hz, fun e => ?_, fun _ e => ?_, fun _ _ p np => q p _ (same_new np) upd_same⟩
  · subst e
    exact q b H (Same.refl _) hb
  · subst e
    exact q a H (Same.refl _) (by rw [List.append_nil]; exact ha)
theorem slice_read {K : PySem.W.Frag} {H : Hp} {a : Addr} {xs : List V} {lo hi : Option Int} {Q : VK} (ha : H a = some (.tup xs)) (q : ∀ p H', Same H H' → H' p = some (.tup (cutV xs lo hi)) → Q (.ref p) H') : rSlA K (.ref a) lo hi H Q := by
  refine ⟨a, xs, rfl, SqT.of ha, fun e => ?_, fun _ p np => q p _ (same_new np) upd_same⟩
  refine q a H (Same.refl _) ?_
  unfold cutV
  rw [e.1, e.2, List.drop_zero, Nat.sub_zero, List.take_length]
  exact ha
theorem cut_ex (L : Nat) (lo hi : Option Int) : ∃ n m : Nat, ∀ {α : Type} (f : α → V) (l : List α), l.length = L → cutV (l.map f) lo hi = ((l.drop n).take m).map f :=
  ⟨HT.sIx L 0 lo, HT.sIx L L hi - HT.sIx L 0 lo, fun f l h => by
    unfold cutV
    rw [List.length_map, h, List.map_take, List.map_drop]⟩
/-- a tuple of ints, a tuple of rows -/
def IntsAt (H : Hp) (p : Addr) (ns : List Int) : Prop := H p = some (.tup (ns.map V.int))
def RowsAt (H : Hp) (p : Addr) (as : List Addr) (ll : List (List Int)) : Prop := H p = some (.tup (as.map V.ref)) ∧ Rows H as ll
theorem IntsAt.same {H H' : Hp} {p : Addr} {ns : List Int} (h : IntsAt H p ns) (s : Same H H') : IntsAt H' p ns := s _ _ h
theorem RowsAt.same {H H' : Hp} {p : Addr} {as : List Addr} {ll : List (List Int)} (h : RowsAt H p as ll) (s : Same H H') : RowsAt H' p as ll := ⟨s _ _ h.1, h.2.same s⟩
theorem RowsAt.kp {H H' : Hp} {f c p : Addr} {as : List Addr} {ll : List (List Int)} (h : RowsAt H p as ll) (F : FeedAt c H f) (k : Kp f H H') : RowsAt H' p as ll := ⟨k _ _ (F.tup h.1) h.1, h.2.kp F k⟩
theorem RowsAt.lot {H : Hp} {p : Addr} {as : List Addr} {ll : List (List Int)} (h : RowsAt H p as ll) : LotAt H p ll := ⟨as, h.1, h.2⟩
theorem IntsAt.kp {H H' : Hp} {f c p : Addr} {ns : List Int} (h : IntsAt H p ns) (F : FeedAt c H f) (k : Kp f H H') : IntsAt H' p ns := k _ _ (F.tup h) h
theorem cat_ints {K : PySem.W.Frag} {H : Hp} {a b : Addr} {xs ys : List Int} {Q : VK} (ha : IntsAt H a xs) (hb : IntsAt H b ys) (hz : xs.length + ys.length ≤ 1000)
    (q : ∀ p H', Same H H' → IntsAt H' p (xs ++ ys) → Q (.ref p) H') : rCatA K (.ref a) (.ref b) H Q :=
  cat_read ha hb (by rw [List.length_map, List.length_map]; exact hz) fun p H' s h => q p H' s (by unfold IntsAt; rw [List.map_append]; exact h)
theorem cat_rows {K : PySem.W.Frag} {H : Hp} {a b : Addr} {as bs : List Addr} {ll mm : List (List Int)} {Q : VK} (ha : RowsAt H a as ll) (hb : RowsAt H b bs mm) (hz : ll.length + mm.length ≤ 1000)
    (q : ∀ p H', Same H H' → RowsAt H' p (as ++ bs) (ll ++ mm) → Q (.ref p) H') : rCatA K (.ref a) (.ref b) H Q :=
  cat_read ha.1 hb.1 (by rw [List.length_map, List.length_map, ha.2.len, hb.2.len]; exact hz) fun p H' s h => q p H' s ⟨by rw [List.map_append]; exact h, (ha.2.same s).app (hb.2.same s)⟩
theorem slice_ints {K : PySem.W.Frag} {H : Hp} {a : Addr} {xs : List Int} {lo hi : Option Int} {Q : VK} (ha : IntsAt H a xs) (q : ∀ p H' n m, Same H H' → IntsAt H' p ((xs.drop n).take m) → Q (.ref p) H') : rSlA K (.ref a) lo hi H Q := by
  obtain ⟨n, m, e⟩ := cut_ex xs.length lo hi
  exact slice_read ha fun p H' s h => q p H' n m s (by unfold IntsAt; rw [← e V.int xs rfl]; exact h)
theorem slice_rows {K : PySem.W.Frag} {H : Hp} {a : Addr} {as : List Addr} {ll : List (List Int)} {lo hi : Option Int} {Q : VK} (ha : RowsAt H a as ll)
    (q : ∀ p H' n m, Same H H' → RowsAt H' p ((as.drop n).take m) ((ll.drop n).take m) → Q (.ref p) H') : rSlA K (.ref a) lo hi H Q := by
  obtain ⟨n, m, e⟩ := cut_ex as.length lo hi
  exact slice_read ha.1 fun p H' s h => q p H' n m s ⟨by rw [← e V.ref as rfl]; exact h, ((ha.2.same s).drop n).take m⟩
theorem len_cut {α : Type} (l : List α) (n m : Nat) : ((l.drop n).take m).length ≤ l.length := by
  rw [List.length_take, List.length_drop]
  omega
theorem mem_cut {α : Type} {l : List α} {n m : Nat} {x : α} (h : x ∈ (l.drop n).take m) : x ∈ l := List.mem_of_mem_drop (List.mem_of_mem_take h)
theorem one_row {H : Hp} {t r : Addr} {row : List Int} (h : IntsAt H r row) (nt : H t = none) : RowsAt (upd H t (.tup [.ref r])) t [r] [row] := ⟨upd_same, ⟨(same_new nt) _ _ h, True.intro⟩⟩
theorem sz_1 (v : V) : [v].length ≤ sizeLine := by
  show 1 ≤ sizeLine
  decide
theorem noPart {σ : L2.St} {H : Hp} {Q : Option Int → Hp → Prop} (h : Q none H) : tNoPart σ H Q := h
end HL

set_option pp.maxSteps 3000
namespace HL
open PySem PySem.Spec PyProof.Rows L2
open C8 (pss_cut)
open SX (S S_len)
open SX (S S_len)
abbrev sTextInit : Stmt := inClass (topS 4) 0
theorem scBT : FnScope ["self", "at"] ["self", "at"] (defScope sTextInit) := ⟨rfl, rfl, rfl, by decide +kernel, rfl, by decide +kernel, by decide +kernel⟩
section
variable {P : Program} {w : World} {K : PySem.W.Frag} {mg : Str → Option Value} {base : Heap}
theorem ok_textInit {f : Addr} {fd : FuncData} {k : Nat} {C : Addr} (F : Fun K "__init__" "BadText.__init__" sTextInit f fd) (T : Cls2 K C "at") : FnOk P w K mg base CX0 (k + 1) f fd ["self", "at"] (spInit2 C "at" "bad text") := by
  refine F.ok scBT (fun vs H Q E h => ?_) (fun cdv A outer s H vs Q E hr h => ?_)
  · obtain ⟨a, v, rfl, _⟩ := h
    rfl
  · obtain ⟨a, v, rfl, ha, q⟩ := h
    refine ⟨_, pss_cons (ps_ost (pv 0) pe_str) (pss_one (ps_ost (pv 0) (pv 1))), ?_⟩
    refine ⟨.ref a, rfl, a, C, rfl, T.ox, T.noW, .inl ⟨ha, fun dx nd ne => ?_⟩⟩
    refine ⟨v, rfl, .ref a, rfl, a, C, rfl, T.ox, T.noF, .inr ⟨dx, _, upd_same, ?_, (by show 1 ≤ 900; decide), q dx nd ne⟩⟩
    rw [upd_ne ne, upd_same]
end
theorem nilA {σ : L2.St} {H : Hp} {Q : List V → Hp → Prop} (h : Q [] H) : tNil σ H Q := h
theorem scIN : FnScope ["word", "figures", "figure"] ["word"] (defScope sIsNum) := ⟨rfl, rfl, rfl, by decide +kernel, rfl, by decide +kernel, by decide +kernel⟩
theorem scRT : FnScope ["row", "number"] ["row"] (defScope sRowText) := ⟨rfl, rfl, rfl, by decide +kernel, rfl, by decide +kernel, by decide +kernel⟩
theorem scRR : FnScope ["text", "words", "word"] ["text"] (defScope sReadRow) := ⟨rfl, rfl, rfl, by decide +kernel, rfl, by decide +kernel, by decide +kernel⟩
theorem st_dash : (Str.ofString "-" : Str) = S [45] := TL.ext_tl (by rw [TL.tl_ofString]; rfl)
theorem st_comma : (Str.ofString "," : Str) = S [44] := TL.ext_tl (by rw [TL.tl_ofString]; rfl)
theorem st_zero : (Str.ofString "0" : Str) = S [48] := TL.ext_tl (by rw [TL.tl_ofString]; rfl)
theorem st_ten : (Str.ofString "0123456789" : Str) = S ten := TL.ext_tl (by rw [TL.tl_ofString]; rfl)
theorem rp_dash (z : List Nat) : Txt.removeprefix (S z) (Str.ofString "-") = S (figs z) := by rw [st_dash]; exact rp_eq z
section
variable {P : Program} {w : World} {K : PySem.W.Frag} {mg : Str → Option Value} {base : Heap}
structure ConstsT (mg : Str → Option Value) : Prop where
  figures : ∃ t, mg "FIGURES" = some (.str "0123456789" t)
  most : ∃ t, mg "MOST_FIGURES" = some (.int 30 t)
def spIsNum : Sp := fun vs H Q _ => ∃ z : List Nat, vs = [.str (S z)] ∧ z.length ≤ 1000 ∧ ∀ H', Same H H' → Q (.bl (isNum z)) H'
theorem ok_isNum {f : Addr} {fd : FuncData} {k : Nat} (F : Fun K "is_number" "is_number" sIsNum f fd) (B : Bl mg) (M : ConstsT mg) : FnOk P w K mg base CX0 (k + 1) f fd ["word"] spIsNum := by
  obtain ⟨tF, mF⟩ := M.figures
  obtain ⟨t3, m3⟩ := M.most
  refine F.ok scIN (fun vs H Q E h => ?_) (fun cdv A outer s H vs Q E hr h => ?_)
  · obtain ⟨z, rfl, _⟩ := h
    rfl
  · obtain ⟨z, rfl, hz, q⟩ := h
    refine ⟨_, pss_cons (ps_set (i := 1) scIN.nd rfl (.inl rfl) (pe_m1 PySem.F.slot_str_removeprefix PySem.F.type_str_removeprefix mt_removeprefix (pv 0) pe_str))
      (pss_cons (ps_if (pt_not (pt_chain op_le op_le pe_int (pe_callB call_len_str (by rfl) B.len PySem.boot_len (pa_cons (pv 1) pa_nil)) (pe_glob (v := .int 30) rfl m3 ⟨_, rfl⟩))) (pss_one (ps_ret pe_bl)) pss_nil)
      (pss_cons (ps_if (pt_not (pt_val (pe_callB (cr_all rfl) (by rfl) B.all (by decide +kernel) (pa_cons (pe_lc (own := [("figure", 2)]) (g := gName 2) (tt := tYes) rfl scIN.nd (pi_str (pv 1))
          (blkOk_by (own := [("figure", 2)]) (N := ["word", "figures", "figure"]) (sc := defScope sIsNum) (by decide +kernel)) (fun _ _ _ _ _ => pg_name (i := 2) scIN.nd rfl (Or.inl rfl)) (fun _ _ _ _ _ => pts_nil)
          (fun _ _ _ _ _ => pe_cmpR op_in_sign (pv 2) (pe_glob (v := .str "0123456789") rfl mF ⟨_, rfl⟩) (by rfl))) pa_nil)))) (pss_one (ps_ret pe_bl)) pss_nil)
      (pss_one (ps_ret (pe_or (pe_cmpR op_ne (pe_ix ix_str (pv 1) pe_int (fun _ _ => rfl)) pe_str (nomark _)) (pe_one (pe_cmpR op_eq (pv 0) pe_str (nomark _)))))))), ?_⟩
    have lf : (S (figs z)).length ≤ sizeLine := by
      rw [S_len]
      exact sz1000 (Nat.le_trans (figs_le z) hz)
    refine ⟨.str (S z), rfl, ⟨_, rfl⟩, S z, _, rfl, rfl, by rw [S_len]; exact sz1000 hz, ?_⟩
    rw [rp_dash]
    refine ⟨.str (S (figs z)), rfl, S (figs z), rfl, lf, 1, _, rfl, rfl, _, rfl, chainI ?_⟩
    rw [S_len]
    refine ite2 (fun c1 => ?_) (fun c1 => ?_)
    · have e : isNum z = false := by
        unfold isNum
        have : decide (1 ≤ (figs z).length ∧ (figs z).length ≤ 30) = false := decide_eq_false (fun y => by simp at c1; omega)
        rw [this]
        rfl
      have q1 := q H (Same.refl _)
      rw [e] at q1
      exact q1
    · have c1' : 1 ≤ (figs z).length ∧ (figs z).length ≤ 30 := by
        simp at c1
        omega
      have ed : decide (1 ≤ (figs z).length ∧ (figs z).length ≤ 30) = true := decide_eq_true c1'
      refine ⟨.str (S (figs z)), rfl, S (figs z), rfl, fun D nD => ?_⟩
      refine lc_it walk_str (fun i H' => Same H H' ∧ H' D = some (.lst ((((figs z).take i).map dig).map V.bl))) ⟨same_new nD, upd_same⟩ (fun _ _ _ _ => True.intro) (fun i x H' H2 hi ⟨sm, hD⟩ ⟨eH, c, hc, ex⟩ => ?_) (fun H' ⟨sm, hD⟩ => ?_)
      · subst eH ex
        have hc' : (figs z)[i]? = some c := by simpa using hc
        refine ⟨rfl, yes (iteT ?_)⟩
        refine ⟨_, rfl, c, _, rfl, rfl, _, hD, ?_, same_late sm nD, ?_⟩
        · rw [List.length_map, List.length_map]
          exact small1000 (Nat.le_trans (List.length_take_le' _ _) (Nat.le_trans (figs_le z) hz))
        · rw [upd_same, List.take_add_one, hc', List.map_append, List.map_append]
          rfl
      · have e0 : (S (figs z)).cps.size = (figs z).length := S_len (figs z)
        rw [e0, List.take_length] at hD
        refine ⟨D, _, rfl, SqL.of hD, _, rfl, ?_⟩
        have eall : (((figs z).map dig).all id) = (figs z).all dig := by
          rw [List.all_map]
          rfl
        rw [eall]
        refine ite2 (fun c2 => ?_) (fun c2 => ?_)
        · have e : isNum z = false := by
            unfold isNum
            cases y : (figs z).all dig with
            | false => rw [Bool.false_and, Bool.and_false]
            | true => rw [y] at c2; cases c2
          have q1 := q H' sm
          rw [e] at q1
          exact q1
        · have y : (figs z).all dig = true := by
            cases y : (figs z).all dig with
            | true => rfl
            | false => rw [y] at c2; exact absurd rfl c2
          obtain ⟨c, r, ef⟩ : ∃ c r, figs z = c :: r := by
            cases e : figs z with
            | nil => rw [e] at c1'; exact absurd c1'.1 (by decide)
            | cons c r => exact ⟨c, r, rfl⟩
          refine ⟨.str (S (figs z)), rfl, S (figs z), 0, c, rfl, rfl, lf, atI_nat (j := 0) (by show (figs z)[0]? = some c; rw [ef]; rfl), rfl, _, rfl, ?_⟩
          have e1 : decide (V.str (⟨#[c]⟩ : Str) = V.str (Str.ofString "0")) = hd0 (figs z) := by
            unfold hd0
            rw [ef, st_zero]
            by_cases h : c = 48
            · rw [h, decide_eq_true rfl]
              rfl
            · show _ = decide (some c = some 48)
              rw [decide_eq_false (fun e => h ?_), decide_eq_false (fun e => h (Option.some.inj e))]
              have e2 := SX.S_inj (a := [c]) (b := [48]) (V.str.inj e)
              exact (List.cons.inj e2).1
          have e3 : decide (V.str (S z) = V.str (Str.ofString "0")) = decide (z = [48]) := by
            rw [st_zero]
            by_cases h : z = [48]
            · rw [h, decide_eq_true rfl, decide_eq_true rfl]
            · rw [decide_eq_false h, decide_eq_false (fun e => h (SX.S_inj (V.str.inj e)))]
          have ei : isNum z = (!hd0 (figs z) || decide (z = [48])) := by
            unfold isNum
            rw [ed, y, Bool.true_and, Bool.true_and]
          have q1 := q H' sm
          rw [ei] at q1
          rw [e1]
          refine ite2 (fun c3 => ?_) (fun c3 => ?_)
          · rw [show (!hd0 (figs z)) = true from c3] at q1
            exact q1
          · rw [Bool.eq_false_iff.mpr c3] at q1
            refine ⟨.str (S z), rfl, rfl, ?_⟩
            rw [e3]
            exact q1
end
open SX (S S_len)
theorem scRTL : FnScope ["_law_row", "_law_number"] ["_law_row"] (defScope sRowTextL) := ⟨rfl, rfl, rfl, by decide +kernel, rfl, by decide +kernel, by decide +kernel⟩
theorem scNI : FnScope ["_law_word", "_law_figures", "_law_sign"] ["_law_word"] (defScope sNumIn) := ⟨rfl, rfl, rfl, by decide +kernel, rfl, by decide +kernel, by decide +kernel⟩
def SmallN (ns : List Int) : Prop := ∀ n ∈ ns, n.natAbs < 10 ^ 30
theorem log_small {n : Int} (h : n.natAbs < 10 ^ 30) : n.natAbs.log2 < 1920 := by
  by_cases z : n.natAbs = 0
  · rw [z]
    decide
  · refine (Nat.log2_lt z).mpr (Nat.lt_of_lt_of_le h ?_)
    exact Nat.le_trans (show 10 ^ 30 ≤ 2 ^ 100 by decide) (Nat.pow_le_pow_right (by decide) (by decide))
theorem sum_lens {ns : List Int} (h : SmallN ns) (hz : ns.length ≤ 100) : (((ns.map wr).map S).map (·.length)).sum + ((ns.map wr).map S).length * (Str.ofString ",").length ≤ 16777216 := by
  have e1 : (Str.ofString ",").length = 1 := by rw [st_comma, S_len]; rfl
  rw [e1, List.length_map, List.length_map]
  have key : ∀ ms : List Int, SmallN ms → (((ms.map wr).map S).map (·.length)).sum ≤ ms.length * 31 := by
    intro ms
    induction ms with
    | nil => intro _; exact Nat.le_refl _
    | cons m ms ih =>
      intro hm
      have h1 := wr_len (hm m List.mem_cons_self)
      have h2 := ih fun n hn => hm n (List.mem_cons_of_mem _ hn)
      rw [List.map_cons, List.map_cons, List.map_cons, List.sum_cons, List.length_cons, S_len, Nat.succ_mul]
      omega
  have := key ns h
  omega
section
variable {P : Program} {w : World} {K : PySem.W.Frag} {mg : Str → Option Value} {base : Heap}
def spRowText (K : PySem.W.Frag) : Sp := fun vs H Q _ => ∃ (p : Addr) (ns : List Int), vs = [.ref p] ∧ SqT K H p (ns.map V.int) ∧ ns.length ≤ 100 ∧ SmallN ns ∧ ∀ H', Same H H' → Q (.str (S (rowL ns))) H'
theorem sqT_same {K : PySem.W.Frag} {H H' : Hp} {a : Addr} {xs : List V} (h : SqT K H a xs) (s : Same H H') : SqT K H' a xs := by
  rcases h with (h | ⟨o, h⟩) | h
  · exact .inl (.inl (s _ _ h))
  · exact .inl (.inr ⟨o, s _ _ h⟩)
  · exact .inr h
theorem ok_rowText {f : Addr} {fd : FuncData} {k : Nat} (F : Fun K "row_text" "row_text" sRowText f fd) (B : Bl mg) : FnOk P w K mg base CX0 (k + 1) f fd ["row"] (spRowText K) := by
  refine F.ok scRT (fun vs H Q E h => ?_) (fun cdv A outer s H vs Q E hr h => ?_)
  · obtain ⟨p, ns, rfl, _⟩ := h
    rfl
  · obtain ⟨p, ns, rfl, hp, hz, hs, q⟩ := h
    refine ⟨_, pss_one (ps_ret (pe_join pe_str (pe_lc (own := [("number", 1)]) (g := gName 1) (tt := tYes) rfl scRT.nd (pi_tup (pv 0))
          (blkOk_by (own := [("number", 1)]) (N := ["row", "number"]) (sc := defScope sRowText) (by decide +kernel)) (fun _ _ _ _ _ => pg_name (i := 1) scRT.nd rfl (Or.inl rfl)) (fun _ _ _ _ _ => pts_nil)
          (fun _ _ _ _ _ => pe_callTy call_str_int (by rfl) B.str (by decide +kernel) (pa_cons (pv 1) pa_nil))))), ?_⟩
    refine ⟨⟨_, rfl⟩, .ref p, rfl, p, rfl, ⟨_, hp⟩, fun D nD => ?_⟩
    refine lc_tup (K := K) (a := p) (xs := ns.map V.int) (fun i H' => Same H H' ∧ H' D = some (.lst ((((ns.map wr).map S).take i).map V.str))) ⟨same_new nD, upd_same⟩ (fun i H' _ ⟨sm, _⟩ => sqT_same hp sm) (fun i x H' hx ⟨sm, hD⟩ => ?_) (fun H' ⟨sm, hD⟩ => ?_)
    · obtain ⟨n, hn, rfl⟩ : ∃ n, ns[i]? = some n ∧ x = V.int n := by
        rw [List.getElem?_map] at hx
        cases e : ns[i]? with
        | none => rw [e] at hx; cases hx
        | some n => rw [e] at hx; exact ⟨n, rfl, (Option.some.inj hx).symm⟩
      refine ⟨rfl, yes (iteT ?_)⟩
      refine ⟨_, rfl, n, rfl, log_small (hs n (List.mem_of_getElem? hn)), _, hD, ?_, same_late sm nD, ?_⟩
      · rw [List.length_map]
        exact small1000 (Nat.le_trans (List.length_take_le' _ _) (by rw [List.length_map, List.length_map]; omega))
      · have e : ((ns.map wr).map S)[i]? = some (S (wr n)) := by rw [List.getElem?_map, List.getElem?_map, hn]; rfl
        rw [upd_same, List.take_add_one, e, List.map_append, ← tl_wr]
        rfl
    · have e : ((ns.map wr).map S).take (ns.map V.int).length = (ns.map wr).map S := List.take_of_length_le (by rw [List.length_map, List.length_map, List.length_map]; omega)
      rw [e] at hD
      refine ⟨_, D, _, rfl, rfl, .inl (SqL.of hD), sum_lens hs hz, ?_⟩
      rw [show Txt.join (Str.ofString ",") ((ns.map wr).map S) = S (rowL ns) by rw [st_comma]; exact join_row ns]
      exact q H' sm
def spReadRow (C : Addr) : Sp := fun vs H Q E => ∃ z : List Nat, vs = [.str (S z)] ∧ z.length ≤ 900 ∧ ((wordsOf z).all isNum = true → ∀ H' p, Same H H' → IntsAt H' p ((wordsOf z).map valW) → Q (.ref p) H') ∧
  ((wordsOf z).all isNum = false → Refd C "at" "bad text" (.int 0) H E)
theorem str_at {ws : List (List Nat)} {i : Nat} {x : V} (h : ((ws.map S).map V.str)[i]? = some x) : ∃ z, ws[i]? = some z ∧ x = .str (S z) := by
  rw [List.getElem?_map, List.getElem?_map] at h
  cases e : ws[i]? with
  | none => rw [e] at h; cases h
  | some z => rw [e] at h; exact ⟨z, rfl, (Option.some.inj h).symm⟩
theorem sp_comma (z : List Nat) : Txt.split (S z) (Str.ofString ",") = (wordsOf z).map S := by rw [st_comma]; exact split_words z
theorem ok_readRow {f : Addr} {fd : FuncData} {C : Addr} (F : Fun K "read_row" "read_row" sReadRow f fd) (B : Bl mg) (T : BadTxt P w K mg base "BadText" C "at" "bad text") (CN : Cal P w K mg base CX0 1 "is_number" ["word"] spIsNum) :
    FnOk P w K mg base (L2N.CX P w) 3 f fd ["text"] (spReadRow C) := by
  obtain ⟨fN, fdN, GN, gN, kN, bN⟩ := CN.ex
  obtain ⟨fI, fdI, iC, tI, GI, bI⟩ := T.ini
  refine F.okN scRR (fun vs H Q E h => ?_) (fun cdv A outer s H vs Q E hr h => ?_)
  · obtain ⟨z, rfl, _⟩ := h
    rfl
  · obtain ⟨z, rfl, hz, q1, q2⟩ := h
    refine ⟨_, pss_cons (ps_set (i := 1) scRR.nd rfl (.inl rfl) (pe_split (pv 0) pe_str))
      (pss_cons (ps_if (pt_not (pt_val (pe_callB (cr_all rfl) (by rfl) B.all (by decide +kernel) (pa_cons (pe_lc (own := [("word", 2)]) (g := gName 2) (tt := tYes) rfl scRR.nd (pi_list (pv 1))
          (blkOk_by (own := [("word", 2)]) (N := ["text", "words", "word"]) (sc := defScope sReadRow) (by decide +kernel)) (fun _ _ _ _ _ => pg_name (i := 2) scRR.nd rfl (Or.inl rfl)) (fun _ _ _ _ _ => pts_nil)
          (fun _ _ _ _ _ => pe_call GN (hr.mono (by decide)) (by rfl) gN kN bN .nil pass0 (pa_cons (pv 2) pa_nil))) pa_nil))))
        (pss_one (L2N.ps_raise rfl (L2N.takes_of rfl rfl rfl rfl) (H33.pmkN_oex T.c2.ox iC tI GI hr bI pass0 (by rfl) T.gC (pa_cons pe_int pa_nil)))) pss_nil)
      (pss_one (ps_ret (pe_callTy call_tuple_of (by rfl) B.tuple (by decide +kernel) (pa_cons (pe_lc (own := [("word", 2)]) (g := gName 2) (tt := tYes) rfl scRR.nd (pi_list (pv 1))
          (blkOk_by (own := [("word", 2)]) (N := ["text", "words", "word"]) (sc := defScope sReadRow) (by decide +kernel)) (fun _ _ _ _ _ => pg_name (i := 2) scRR.nd rfl (Or.inl rfl)) (fun _ _ _ _ _ => pts_nil)
          (fun _ _ _ _ _ => pe_callTy call_int_str (by rfl) B.int (by decide +kernel) (pa_cons (pv 2) pa_nil))) pa_nil))))), ?_⟩
    obtain ⟨w1, w2⟩ := words_len z
    refine ⟨.str (S z), rfl, ⟨_, rfl⟩, S z, _, rfl, rfl, by decide +kernel, by rw [S_len]; exact sz1000 (by omega), fun p np => ?_⟩
    rw [sp_comma]
    have sp := same_new (o := .lst (((wordsOf z).map S).map V.str)) np
    refine ⟨.ref p, rfl, p, rfl, ⟨_, SqL.of upd_same⟩, fun D nD => ?_⟩
    have nD0 : H D = none := sp.free nD
    refine lc_list (K := K) (a := p) (xs := ((wordsOf z).map S).map V.str) (fun i H' => Same (upd H p (.lst (((wordsOf z).map S).map V.str))) H' ∧ H' D = some (.lst ((((wordsOf z).take i).map isNum).map V.bl))) ⟨same_new nD, upd_same⟩ (fun i H' _ ⟨sm, _⟩ => SqL.of (sm _ _ upd_same)) (fun i x H' hx ⟨sm, hD⟩ => ?_) (fun H' ⟨sm, hD⟩ => ?_)
    · obtain ⟨u, hu, rfl⟩ := str_at hx
      have hul := w2 u (List.mem_of_getElem? hu)
      refine ⟨rfl, yes (iteT ?_)⟩
      refine ⟨_, rfl, u, rfl, by omega, fun H2 s2 => ⟨_, s2 _ _ hD, ?_, same_late (sm.trans s2) nD, ?_⟩⟩
      · rw [List.length_map, List.length_map]
        exact small1000 (Nat.le_trans (List.length_take_le' _ _) (by omega))
      · rw [upd_same, List.take_add_one, hu, List.map_append, List.map_append]
        rfl
    · rw [List.length_map, List.length_map, List.take_length] at hD
      refine ⟨D, _, rfl, SqL.of hD, _, rfl, ?_⟩
      have eall : (((wordsOf z).map isNum).all id) = (wordsOf z).all isNum := by
        rw [List.all_map]
        rfl
      rw [eall]
      refine ite2 (fun c => ?_) (fun c => ?_)
      · have e : (wordsOf z).all isNum = false := by
          cases y : (wordsOf z).all isNum with
          | false => rfl
          | true => rw [y] at c; cases c
        exact mk_refd ((q2 e).same (sp.trans sm))
      · have e : (wordsOf z).all isNum = true := by
          cases y : (wordsOf z).all isNum with
          | true => rfl
          | false => rw [y] at c; exact absurd rfl c
        refine ⟨.ref p, rfl, p, rfl, ⟨_, SqL.of (sm _ _ upd_same)⟩, fun D2 nD2 => ?_⟩
        have s0 : Same H H' := sp.trans sm
        refine lc_list (K := K) (a := p) (xs := ((wordsOf z).map S).map V.str) (fun i H2 => Same H' H2 ∧ H2 D2 = some (.lst ((((wordsOf z).map valW).take i).map V.int))) ⟨same_new nD2, upd_same⟩ (fun i H2 _ ⟨s2, _⟩ => SqL.of (s2 _ _ (sm _ _ upd_same))) (fun i x H2 hx ⟨s2, hD2⟩ => ?_) (fun H2 ⟨s2, hD2⟩ => ?_)
        · obtain ⟨u, hu, rfl⟩ := str_at hx
          have hn := (List.all_eq_true.mp e) u (List.mem_of_getElem? hu)
          obtain ⟨i1, i2⟩ := int_word hn
          refine ⟨rfl, yes (iteT ?_)⟩
          refine ⟨_, rfl, _, _, rfl, i1, i2, _, hD2, ?_, same_late s2 nD2, ?_⟩
          · rw [List.length_map]
            exact small1000 (Nat.le_trans (List.length_take_le' _ _) (by rw [List.length_map]; omega))
          · have e : ((wordsOf z).map valW)[i]? = some (valW u) := by rw [List.getElem?_map, hu]; rfl
            rw [upd_same, List.take_add_one, e, List.map_append]
            rfl
        · rw [List.length_map, List.length_map] at hD2
          rw [List.take_of_length_le (by rw [List.length_map]; exact Nat.le_refl _)] at hD2
          exact ⟨D2, _, rfl, .inl ⟨SqL.of hD2, fun t nt => q1 e _ t (s0.trans (s2.trans (same_new nt))) upd_same⟩⟩
end
open SX (S S_len S_tl S_cat)
open LamX (CodeO Tabs TabS TabB ExtN tLam LamS lamS_by lamCx lamEnv codeO_ne)
theorem st_d0 : (Str.ofString "-0" : Str) = S [45, 48] := TL.ext_tl (by rw [TL.tl_ofString]; rfl)
theorem cut_head (z : List Nat) : cutS (S z) none (some 1) = S (z.take 1) := by
  refine TL.ext_tl ?_
  show (z.drop (HT.sIx (S z).length 0 none)).take (HT.sIx (S z).length (S z).length (some 1) - HT.sIx (S z).length 0 none) = z.take 1
  rw [HT.sIx_none, show (some (1 : Int)) = some ((1 : Nat) : Int) from rfl, HT.sIx_nat, List.drop_zero, Nat.sub_zero, S_len]
  cases z with
  | nil => rfl
  | cons x r =>
    rw [List.length_cons, Nat.min_eq_left (by omega)]
theorem cut_tail (z : List Nat) : cutS (S z) (some 1) none = S (z.drop 1) := by
  refine TL.ext_tl ?_
  show (z.drop (HT.sIx (S z).length 0 (some 1))).take (HT.sIx (S z).length (S z).length none - HT.sIx (S z).length 0 (some 1)) = z.drop 1
  rw [HT.sIx_none, show (some (1 : Int)) = some ((1 : Nat) : Int) from rfl, HT.sIx_nat, S_len]
  cases z with
  | nil => rfl
  | cons x r =>
    rw [List.length_cons, Nat.min_eq_left (by omega)]
    refine List.take_of_length_le ?_
    rw [List.length_drop, List.length_cons]
    omega
theorem figs_law (z : List Nat) : figs z = if z.take 1 = [45] then z.drop 1 else z := by
  cases z with
  | nil => rfl
  | cons x r =>
    by_cases h : x = 45
    · subst h
      rw [if_pos (show List.take 1 (45 :: r) = [45] from rfl)]
      rfl
    · rw [if_neg (show ¬ List.take 1 (x :: r) = [45] from fun e => h (List.cons.inj e).1), figs_ne (z := x :: r) (fun e => h (Option.some.inj e))]
theorem num_law {z : List Nat} (h1 : 1 ≤ (figs z).length ∧ (figs z).length ≤ 30) (h2 : (figs z).all dig = true) : isNum z = !((decide (1 < (figs z).length) && hd0 (figs z)) || decide (z = [45, 48])) := by
  have e : isNum z = (!hd0 (figs z) || decide (z = [48])) := by
    unfold isNum
    rw [decide_eq_true h1, h2, Bool.true_and, Bool.true_and]
  rw [e]
  cases z with
  | nil => exact absurd h1.1 (by decide)
  | cons x r =>
    by_cases hx : x = 45
    · subst hx
      show (!hd0 r || decide (45 :: r = [48])) = !((decide (1 < r.length) && hd0 r) || decide (45 :: r = [45, 48]))
      have e1 : decide (45 :: r = [48]) = false := decide_eq_false (fun q => by cases q)
      rw [e1, Bool.or_false]
      cases r with
      | nil => rfl
      | cons y t =>
        by_cases hy : y = 48
        · subst hy
          cases t with
          | nil => rfl
          | cons u t' =>
            have : decide (1 < (48 :: u :: t').length) = true := decide_eq_true (by rw [List.length_cons, List.length_cons]; omega)
            rw [this]
            rfl
        · have e2 : hd0 (y :: t) = false := decide_eq_false (fun q => hy (Option.some.inj q))
          have e3 : decide (45 :: y :: t = [45, 48]) = false := decide_eq_false (fun q => hy (List.cons.inj (List.cons.inj q).2).1)
          rw [e2, e3, Bool.and_false]
          rfl
    · have ef : figs (x :: r) = x :: r := figs_ne (fun q => hx (Option.some.inj q))
      have e3 : decide (x :: r = [45, 48]) = false := decide_eq_false (fun q => hx (List.cons.inj q).1)
      rw [ef, e3, Bool.or_false]
      by_cases hy : x = 48
      · subst hy
        cases r with
        | nil => rfl
        | cons u t' =>
          have : decide (1 < (48 :: u :: t').length) = true := decide_eq_true (by rw [List.length_cons, List.length_cons]; omega)
          have e4 : decide (48 :: u :: t' = [48]) = false := decide_eq_false (fun q => by cases (List.cons.inj q).2)
          rw [this, e4]
          rfl
      · have e2 : hd0 (x :: r) = false := decide_eq_false (fun q => hy (Option.some.inj q))
        rw [e2, Bool.and_false]
        rfl
section
variable {P : Program} {w : World} {K : PySem.W.Frag} {mg : Str → Option Value} {base : Heap}
theorem ok_rowTextL {f : Addr} {fd : FuncData} {k : Nat} (F : Fun K "_law_row_text" "_law_row_text" sRowTextL f fd) (B : Bl mg) : FnOk P w K mg base CX0 (k + 1) f fd ["_law_row"] (spRowText K) := by
  refine F.ok scRTL (fun vs H Q E h => ?_) (fun cdv A outer s H vs Q E hr h => ?_)
  · obtain ⟨p, ns, rfl, _⟩ := h
    rfl
  · obtain ⟨p, ns, rfl, hp, hz, hs, q⟩ := h
    refine ⟨_, pss_one (ps_ret (pe_join pe_str (pe_lc (own := [("_law_number", 1)]) (g := gName 1) (tt := tYes) rfl scRTL.nd (pi_tup (pv 0))
          (blkOk_by (own := [("_law_number", 1)]) (N := ["_law_row", "_law_number"]) (sc := defScope sRowTextL) (by decide +kernel)) (fun _ _ _ _ _ => pg_name (i := 1) scRTL.nd rfl (Or.inl rfl)) (fun _ _ _ _ _ => pts_nil)
          (fun _ _ _ _ _ => pe_callTy call_str_int (by rfl) B.str (by decide +kernel) (pa_cons (pv 1) pa_nil))))), ?_⟩
    refine ⟨⟨_, rfl⟩, .ref p, rfl, p, rfl, ⟨_, hp⟩, fun D nD => ?_⟩
    refine lc_tup (K := K) (a := p) (xs := ns.map V.int) (fun i H' => Same H H' ∧ H' D = some (.lst ((((ns.map wr).map S).take i).map V.str))) ⟨same_new nD, upd_same⟩ (fun i H' _ ⟨sm, _⟩ => sqT_same hp sm) (fun i x H' hx ⟨sm, hD⟩ => ?_) (fun H' ⟨sm, hD⟩ => ?_)
    · obtain ⟨n, hn, rfl⟩ : ∃ n, ns[i]? = some n ∧ x = V.int n := by
        rw [List.getElem?_map] at hx
        cases e : ns[i]? with
        | none => rw [e] at hx; cases hx
        | some n => rw [e] at hx; exact ⟨n, rfl, (Option.some.inj hx).symm⟩
      refine ⟨rfl, yes (iteT ?_)⟩
      refine ⟨_, rfl, n, rfl, log_small (hs n (List.mem_of_getElem? hn)), _, hD, ?_, same_late sm nD, ?_⟩
      · rw [List.length_map]
        exact small1000 (Nat.le_trans (List.length_take_le' _ _) (by rw [List.length_map, List.length_map]; omega))
      · have e : ((ns.map wr).map S)[i]? = some (S (wr n)) := by rw [List.getElem?_map, List.getElem?_map, hn]; rfl
        rw [upd_same, List.take_add_one, e, List.map_append, ← tl_wr]
        rfl
    · have e : ((ns.map wr).map S).take (ns.map V.int).length = (ns.map wr).map S := List.take_of_length_le (by rw [List.length_map, List.length_map, List.length_map]; omega)
      rw [e] at hD
      refine ⟨_, D, _, rfl, rfl, .inl (SqL.of hD), sum_lens hs hz, ?_⟩
      rw [show Txt.join (Str.ofString ",") ((ns.map wr).map S) = S (rowL ns) by rw [st_comma]; exact join_row ns]
      exact q H' sm
def spNumIn : Sp := fun vs H Q _ => ∃ z : List Nat, vs = [.str (S z)] ∧ z.length ≤ 1000 ∧ ∀ H', Same H H' → Q (numV z) H'
theorem ok_numIn {f : Addr} {fd : FuncData} {k : Nat} (F : Fun K "_law_number_in" "_law_number_in" sNumIn f fd) (B : Bl mg) : FnOk P w K mg base CX0 (k + 1) f fd ["_law_word"] spNumIn := by
  refine F.ok scNI (fun vs H Q E h => ?_) (fun cdv A outer s H vs Q E hr h => ?_)
  · obtain ⟨z, rfl, _⟩ := h
    rfl
  · obtain ⟨z, rfl, hz, q⟩ := h
    refine ⟨_, pss_cons (ps_set (i := 1) scNI.nd rfl (.inl rfl) (pe_ifExp (pt_cmpR op_eq (pe_slice sl_str (pv 0) po_none (po_some pe_int)) pe_str (nomark _)) (pe_slice sl_str (pv 0) (po_some pe_int) po_none) (pv 0)))
      (pss_cons (ps_if (PW.pt (pw_or (pt_not (pt_chain op_le op_le pe_int (pe_callB call_len_str (by rfl) B.len PySem.boot_len (pa_cons (pv 1) pa_nil)) pe_int))
          (pw_or1 (pt_not (pt_val (pe_callB (cr_all rfl) (by rfl) B.all (by decide +kernel) (pa_cons (pe_lc (own := [("_law_sign", 2)]) (g := gName 2) (tt := tYes) rfl scNI.nd (pi_str (pv 1))
          (blkOk_by (own := [("_law_sign", 2)]) (N := ["_law_word", "_law_figures", "_law_sign"]) (sc := defScope sNumIn) (by decide +kernel)) (fun _ _ _ _ _ => pg_name (i := 2) scNI.nd rfl (Or.inl rfl)) (fun _ _ _ _ _ => pts_nil)
          (fun _ _ _ _ _ => pe_cmpR op_in_sign (pv 2) pe_str (by rfl))) pa_nil))))))) (pss_one (ps_ret pe_non)) pss_nil)
      (pss_cons (ps_if (PW.pt (pw_or (PW.pt (pw_and (pt_cmpR op_gt (pe_callB call_len_str (by rfl) B.len PySem.boot_len (pa_cons (pv 1) pa_nil)) pe_int (nomark _)) (pw_and1 (pt_cmpR op_eq (pe_ix ix_str (pv 1) pe_int (fun _ _ => rfl)) pe_str (nomark _)))))
          (pw_or1 (pt_cmpR op_eq (pv 0) pe_str (nomark _))))) (pss_one (ps_ret pe_non)) pss_nil)
      (pss_one (ps_ret (pe_callTy call_int_str (by rfl) B.int (by decide +kernel) (pa_cons (pv 0) pa_nil)))))), ?_⟩
    have hs : (S z).length ≤ sizeLine := by rw [S_len]; exact sz1000 hz
    have hf := figs_le z
    have lf : (S (figs z)).length ≤ sizeLine := by rw [S_len]; exact sz1000 (by omega)
    have hno : isNum z = false → Q .non H := fun e => by
      have q1 := q H (Same.refl _)
      unfold numV at q1
      rw [e] at q1
      exact q1
    refine ⟨.str (S z), rfl, 1, rfl, S z, rfl, hs, ?_⟩
    rw [cut_head]
    refine ⟨rfl, _, rfl, ?_⟩
    have e1 : decide (V.str (S (z.take 1)) = V.str (Str.ofString "-")) = decide (z.take 1 = [45]) := by
      rw [st_dash]
      by_cases h : z.take 1 = [45]
      · rw [h, decide_eq_true rfl, decide_eq_true rfl]
      · rw [decide_eq_false h, decide_eq_false (fun e => h (SX.S_inj (V.str.inj e)))]
    rw [e1]
    have ef := figs_law z
    refine ite2 (fun c => ?A) (fun c => ?B)
    case' A =>
      rw [if_pos (of_decide_eq_true c)] at ef
      refine ⟨.str (S z), rfl, 1, rfl, noPart ⟨S z, rfl, hs, ?_⟩⟩
      rw [cut_tail, ← ef]
    case' B =>
      rw [if_neg (fun y => c (decide_eq_true y))] at ef
      refine ⟨.str (S (figs z)), (show some (some (V.str (S z))) = some (some (V.str (S (figs z)))) by rw [ef]), ?_⟩
    all_goals
      refine ⟨.str (S (figs z)), rfl, S (figs z), rfl, lf, 1, _, rfl, rfl, _, rfl, chainI ?_⟩
      rw [S_len]
      refine ite2 (fun c1 => iteT (hno ?_)) (fun c1 => ?_)
      · unfold isNum
        have : decide (1 ≤ (figs z).length ∧ (figs z).length ≤ 30) = false := decide_eq_false (fun y => by simp at c1; omega)
        rw [this]
        rfl
      have c1' : 1 ≤ (figs z).length ∧ (figs z).length ≤ 30 := by
        simp at c1
        omega
      refine ⟨.str (S (figs z)), rfl, S (figs z), rfl, fun D nD => ?_⟩
      refine lc_it walk_str (fun i H' => Same H H' ∧ H' D = some (.lst ((((figs z).take i).map dig).map V.bl))) ⟨same_new nD, upd_same⟩ (fun _ _ _ _ => True.intro) (fun i x H' H2 hi ⟨sm, hD⟩ ⟨eH, u, hc, ex⟩ => ?_) (fun H' ⟨sm, hD⟩ => ?_)
      · subst eH ex
        have hc' : (figs z)[i]? = some u := by simpa using hc
        refine ⟨rfl, yes (iteT ?_)⟩
        refine ⟨_, rfl, u, _, rfl, rfl, _, hD, ?_, same_late sm nD, ?_⟩
        · rw [List.length_map, List.length_map]
          exact small1000 (Nat.le_trans (List.length_take_le' _ _) (by omega))
        · rw [upd_same, List.take_add_one, hc', List.map_append, List.map_append]
          rfl
      have e0 : (S (figs z)).cps.size = (figs z).length := S_len (figs z)
      rw [e0, List.take_length] at hD
      have hno' : isNum z = false → Q .non H' := fun e => by
        have q1 := q H' sm
        unfold numV at q1
        rw [e] at q1
        exact q1
      refine ⟨D, _, rfl, SqL.of hD, _, rfl, ?_⟩
      have eall : (((figs z).map dig).all id) = (figs z).all dig := by
        rw [List.all_map]
        rfl
      rw [eall]
      refine ite2 (fun c2 => hno' ?_) (fun c2 => ?_)
      · unfold isNum
        cases y : (figs z).all dig with
        | false => rw [Bool.false_and, Bool.and_false]
        | true => rw [y] at c2; cases c2
      have y : (figs z).all dig = true := by
        cases y : (figs z).all dig with
        | true => rfl
        | false => rw [y] at c2; exact absurd rfl c2
      have ei := num_law c1' y
      obtain ⟨u, r, eu⟩ : ∃ u r, figs z = u :: r := by
        cases e : figs z with
        | nil => rw [e] at c1'; exact absurd c1'.1 (by decide)
        | cons u r => exact ⟨u, r, rfl⟩
      have e2 : decide (V.str (⟨#[u]⟩ : Str) = V.str (Str.ofString "0")) = hd0 (figs z) := by
        unfold hd0
        rw [eu, st_zero]
        by_cases h : u = 48
        · rw [h, decide_eq_true rfl]
          rfl
        · show _ = decide (some u = some 48)
          rw [decide_eq_false (fun e => h ?_), decide_eq_false (fun e => h (Option.some.inj e))]
          have e2 := SX.S_inj (a := [u]) (b := [48]) (V.str.inj e)
          exact (List.cons.inj e2).1
      have e3 : decide (V.str (S z) = V.str (Str.ofString "-0")) = decide (z = [45, 48]) := by
        rw [st_d0]
        by_cases h : z = [45, 48]
        · rw [h, decide_eq_true rfl, decide_eq_true rfl]
        · rw [decide_eq_false h, decide_eq_false (fun e => h (SX.S_inj (V.str.inj e)))]
      refine ⟨.str (S (figs z)), rfl, S (figs z), rfl, lf, _, 1, rfl, rfl, _, rfl, ?_⟩
      rw [S_len]
      refine ite2 (fun c4 => ?_) (fun c4 => ?_)
      · refine ⟨.str (S (figs z)), rfl, S (figs z), 0, u, rfl, rfl, lf, atI_nat (j := 0) (by show (figs z)[0]? = some u; rw [eu]; rfl), rfl, _, rfl, ?_⟩
        rw [e2]
        have c4' : 1 < (figs z).length := by have := of_decide_eq_true c4; omega
        refine ite2 (fun c5 => hno' (by rw [ei, decide_eq_true c4', c5]; rfl)) (fun c5 => ?_)
        have h3 : (decide (1 < (figs z).length) && hd0 (figs z)) = false := by rw [Bool.eq_false_iff.mpr c5, Bool.and_false]
        rw [h3, Bool.false_or] at ei
        refine ⟨.str (S z), rfl, rfl, _, rfl, ?_⟩
        rw [e3]
        refine ite2 (fun c3 => hno' (by rw [ei, c3]; rfl)) (fun c3 => ?_)
        rw [Bool.eq_false_iff.mpr c3] at ei
        have ei' : isNum z = true := ei
        obtain ⟨i1, i2⟩ := int_word ei'
        refine ⟨.str (S z), rfl, S z, _, rfl, i1, i2, ?_⟩
        have q1 := q H' sm
        unfold numV at q1
        rw [if_pos ei'] at q1
        exact q1
      · have c4' : ¬ 1 < (figs z).length := fun h => c4 (decide_eq_true (by omega))
        have h3 : (decide (1 < (figs z).length) && hd0 (figs z)) = false := by rw [decide_eq_false c4']; rfl
        rw [h3, Bool.false_or] at ei
        refine ⟨.str (S z), rfl, rfl, _, rfl, ?_⟩
        rw [e3]
        refine ite2 (fun c3 => hno' (by rw [ei, c3]; rfl)) (fun c3 => ?_)
        rw [Bool.eq_false_iff.mpr c3] at ei
        have ei' : isNum z = true := ei
        obtain ⟨i1, i2⟩ := int_word ei'
        refine ⟨.str (S z), rfl, S z, _, rfl, i1, i2, ?_⟩
        have q1 := q H' sm
        unfold numV at q1
        rw [if_pos ei'] at q1
        exact q1
end
end HL

set_option pp.maxSteps 3000
namespace HL
open PySem PySem.Spec PyProof.Rows L2
open C8 (pss_cut)
open SX (S S_len split_S join_S)
theorem scLT : FnScope ["lot", "hold"] ["lot"] (defScope sLotText) := ⟨rfl, rfl, rfl, by decide +kernel, rfl, by decide +kernel, by decide +kernel⟩
theorem scRL : FnScope ["text", "lot", "word"] ["text"] (defScope sReadLot) := ⟨rfl, rfl, rfl, by decide +kernel, rfl, by decide +kernel, by decide +kernel⟩
theorem scLTL : FnScope ["_law_lot_here", "_law_hold_here"] ["_law_lot_here"] (defScope sLotTextL) := ⟨rfl, rfl, rfl, by decide +kernel, rfl, by decide +kernel, by decide +kernel⟩
/-! ### lots in a text -/
def kindsOf (z : List Nat) : List (List Nat) := TL.spl [32] 0 [] z
theorem st_blank : (Str.ofString " " : Str) = S [32] := TL.ext_tl (by rw [TL.tl_ofString]; rfl)
theorem sp_blank (z : List Nat) : Txt.split (S z) (Str.ofString " ") = (kindsOf z).map S := by rw [st_blank]; exact split_S (by decide) (by decide)
def lotL (ll : List (List Int)) : List Nat := TL.joinL [32] (ll.map rowL)
theorem join_free {c s : Nat} (h : c ≠ s) : ∀ {ps : List (List Nat)}, (∀ p ∈ ps, c ∉ p) → c ∉ TL.joinL [s] ps
  | [], _ => fun z => by cases z
  | [p], hp => hp p List.mem_cons_self
  | p :: q :: r, hp => fun z => by
    have z' : c ∈ p ++ ([s] ++ TL.joinL [s] (q :: r)) := z
    rcases List.mem_append.mp z' with z1 | z1
    · exact hp p List.mem_cons_self z1
    · rcases List.mem_append.mp z1 with z2 | z2
      · exact h (List.mem_singleton.mp z2)
      · exact join_free h (fun x hx => hp x (List.mem_cons_of_mem _ hx)) z2
theorem row_free (ns : List Int) : 32 ∉ rowL ns := join_free (by decide) fun p hp => by
  obtain ⟨n, _, rfl⟩ := List.mem_map.mp hp
  exact wr_free (.inl (by decide)) (by decide)
theorem kinds_lot {ll : List (List Int)} (h : ll ≠ []) : kindsOf (lotL ll) = ll.map rowL := by
  refine TL.spl_join (fun e => h (List.map_eq_nil_iff.mp e)) fun p hp => ?_
  obtain ⟨n, _, rfl⟩ := List.mem_map.mp hp
  exact row_free n
theorem join_lot (ll : List (List Int)) : Txt.join (Str.ofString " ") ((ll.map rowL).map S) = S (lotL ll) := by rw [st_blank]; exact join_S _ _
theorem joinB_len : ∀ {ps : List (List Nat)} {k : Nat}, (∀ p ∈ ps, p.length ≤ k) → (TL.joinL [32] ps).length ≤ ps.length * (k + 1)
  | [], k, _ => Nat.zero_le _
  | [p], k, h => by
    have := h p List.mem_cons_self
    show p.length ≤ 1 * (k + 1)
    omega
  | p :: q :: r, k, h => by
    have h1 := h p List.mem_cons_self
    have h2 := joinB_len (ps := q :: r) (k := k) fun z hz => h z (List.mem_cons_of_mem _ hz)
    show (p ++ ([32] ++ TL.joinL [32] (q :: r))).length ≤ (q :: r).length.succ * (k + 1)
    rw [List.length_append, List.length_append, List.length_singleton, Nat.succ_mul]
    omega
theorem splB_len : ∀ (z acc : List Nat), (TL.spl [32] 0 acc z).length ≤ z.length + 1 ∧ ∀ p ∈ TL.spl [32] 0 acc z, p.length ≤ acc.length + z.length
  | [], acc => by
    rw [TL.spl_nil]
    exact ⟨Nat.le_refl _, fun p hp => by rw [List.mem_singleton.mp hp]; exact Nat.le_refl _⟩
  | c :: r, acc => by
    cases e : TL.pre [32] (c :: r) with
    | true =>
      rw [TL.spl_hit e]
      obtain ⟨h1, h2⟩ := splB_len r []
      refine ⟨by rw [List.length_cons, List.length_cons]; exact Nat.succ_le_succ h1, fun p hp => ?_⟩
      rcases List.mem_cons.mp hp with x | x
      · rw [x]; omega
      · have := h2 p x
        rw [List.length_cons]
        simp at this
        omega
    | false =>
      rw [TL.spl_miss e]
      obtain ⟨h1, h2⟩ := splB_len r (acc ++ [c])
      refine ⟨by rw [List.length_cons]; omega, fun p hp => ?_⟩
      have := h2 p hp
      rw [List.length_append, List.length_singleton] at this
      rw [List.length_cons]
      omega
theorem kinds_len (z : List Nat) : (kindsOf z).length ≤ z.length + 1 ∧ ∀ p ∈ kindsOf z, p.length ≤ z.length := by
  have := splB_len z []
  exact ⟨this.1, fun p hp => by have := this.2 p hp; simp at this; exact this⟩
theorem Rows.putL {H : Hp} {D : Addr} {xs ys : List V} {bs : List Addr} {ll : List (List Int)} (R : Rows H bs ll) (hD : H D = some (.lst xs)) : Rows (upd H D (.lst ys)) bs ll := R.mono fun a vs e => by
  rw [upd_ne (fun z => by rw [z, hD] at e; cases e)]
  exact e
def okT (z : List Nat) : Bool := (kindsOf z).all fun u => (wordsOf u).all isNum
def rowsT (z : List Nat) : List (List Int) := (kindsOf z).map fun u => (wordsOf u).map valW
theorem small_rows {ll : List (List Int)} (h : ∀ r ∈ ll, ∀ n ∈ r, 0 ≤ n ∧ n ≤ 6) : ∀ r ∈ ll, SmallN r := fun r hr n hn => by
  have := h r hr n hn
  have : n.natAbs ≤ 6 := by omega
  exact Nat.lt_of_le_of_lt this (by decide)
theorem rows_there {ll : List (List Int)} (hne : ll ≠ []) (hn : ∀ r ∈ ll, r ≠ []) (hs : ∀ r ∈ ll, SmallN r) : okT (lotL ll) = true ∧ rowsT (lotL ll) = ll := by
  unfold okT rowsT
  rw [kinds_lot hne]
  constructor
  · rw [List.all_map]
    refine List.all_eq_true.mpr fun r hr => ?_
    show (wordsOf (rowL r)).all isNum = true
    rw [words_row (hn r hr), List.all_map]
    exact List.all_eq_true.mpr fun n hm => (wr_num (hs r hr n hm)).1
  · rw [List.map_map]
    refine (List.map_congr_left fun r hr => ?_).trans (List.map_id ll)
    show (wordsOf (rowL r)).map valW = r
    rw [words_row (hn r hr), List.map_map]
    exact (List.map_congr_left fun n hm => (wr_num (hs r hr n hm)).2).trans (List.map_id r)
theorem flaw_rows {ll : List (List Int)} (h : flaw ll = none) : ∀ r ∈ ll, r.length = width ll ∧ ∀ n ∈ r, 0 ≤ n ∧ n ≤ 6 := by
  have h0 := flaw_ok h
  unfold flaw at h
  rw [if_pos ⟨h0.1, h0.2.1, h0.2.2.1, h0.2.2.2⟩] at h
  unfold flawIn at h
  have e : ll.findIdx? (fun r => !okRow (width ll) r) = none := by
    cases z : ll.findIdx? (fun r => !okRow (width ll) r) with
    | none => rfl
    | some i => rw [z] at h; cases h
  intro r hr
  have := List.findIdx?_eq_none_iff.mp e r hr
  have b : okRow (width ll) r = true := by
    cases z : okRow (width ll) r with
    | true => rfl
    | false => rw [z] at this; cases this
  obtain ⟨o1, o2, _⟩ := okRow_iff.mp b
  exact ⟨o1, o2⟩
theorem flaw_rowsT {ll : List (List Int)} (h : flaw ll = none) : ∀ r ∈ ll, ∀ n ∈ r, 0 ≤ n ∧ n ≤ 6 := fun r hr => (flaw_rows h r hr).2
theorem row_few {r : List Int} (h : r.length ≤ 100) (hs : SmallN r) : (rowL r).length ≤ 3200 := by
  have := rowL_len hs
  omega
theorem sum_lensB {ll : List (List Int)} (hz : ll.length ≤ 100) (hr : ∀ r ∈ ll, r.length ≤ 100 ∧ SmallN r) : (((ll.map rowL).map S).map (·.length)).sum + ((ll.map rowL).map S).length * (Str.ofString " ").length ≤ 16777216 := by
  have e1 : (Str.ofString " ").length = 1 := by rw [st_blank, S_len]; rfl
  rw [e1, List.length_map, List.length_map]
  have key : ∀ ms : List (List Int), (∀ r ∈ ms, r.length ≤ 100 ∧ SmallN r) → (((ms.map rowL).map S).map (·.length)).sum ≤ ms.length * 3200 := by
    intro ms
    induction ms with
    | nil => intro _; exact Nat.le_refl _
    | cons m ms ih =>
      intro hm
      have h0 := hm m List.mem_cons_self
      have h1 := row_few h0.1 h0.2
      have h2 := ih fun n hn => hm n (List.mem_cons_of_mem _ hn)
      rw [List.map_cons, List.map_cons, List.map_cons, List.sum_cons, List.length_cons, S_len, Nat.succ_mul]
      omega
  have := key ll hr
  omega
section
variable {P : Program} {w : World} {K : PySem.W.Frag} {mg : Str → Option Value} {base : Heap}
/-! ### lot_text -/
def spLotTextL : Sp := fun vs H Q _ => ∃ (p : Addr) (ll : List (List Int)), vs = [.ref p] ∧ LotAt H p ll ∧ ll.length ≤ 100 ∧ (∀ r ∈ ll, r.length ≤ 100 ∧ SmallN r) ∧ ∀ H', Same H H' → Q (.str (S (lotL ll))) H'
theorem ok_lotTextL {f : Addr} {fd : FuncData} (F : Fun K "_law_lot_text" "_law_lot_text" sLotTextL f fd) (CR : Cal P w K mg base CX0 1 "_law_row_text" ["_law_row"] (spRowText K)) : FnOk P w K mg base CX0 2 f fd ["_law_lot_here"] spLotTextL := by
  obtain ⟨fR, fdR, GR, gR, kR, bR⟩ := CR.ex
  refine F.ok scLTL (fun vs H Q E h => ?_) (fun cdv A outer s H vs Q E hr h => ?_)
  · obtain ⟨p, ll, rfl, _⟩ := h
    rfl
  · obtain ⟨p, ll, rfl, ⟨as, hp, hR⟩, hz, hs, q⟩ := h
    refine ⟨_, (pss_one (ps_ret (pe_join pe_str (pe_lc (own := [("_law_hold_here", 1)]) (g := gName 1) (tt := tYes) rfl scLTL.nd (pi_tup (pv 0))
        (blkOk_by (own := [("_law_hold_here", 1)]) (N := ["_law_lot_here", "_law_hold_here"]) (sc := defScope sLotTextL) (by decide +kernel)) (fun _ _ _ _ _ => pg_name (i := 1) scLTL.nd rfl (Or.inl rfl)) (fun _ _ _ _ _ => pts_nil)
        (fun _ _ _ _ _ => (pe_call GR (hr.mono (by decide)) (by rfl) gR kR bR .nil pass0 (pa_cons (pv 1) pa_nil))))))), ?_⟩
    have hlen := hR.len
    refine ⟨⟨_, rfl⟩, .ref p, rfl, p, rfl, ⟨_, SqT.of hp⟩, fun D nD => ?_⟩
    refine lc_tup (K := K) (a := p) (xs := as.map V.ref) (fun i H' => Same H H' ∧ H' D = some (.lst ((((ll.map rowL).map S).take i).map V.str))) ⟨same_new nD, upd_same⟩ (fun i H' _ ⟨sm, _⟩ => SqT.of (sm _ _ hp)) (fun i x H' hx ⟨sm, hD⟩ => ?_) (fun H' ⟨sm, hD⟩ => ?_)
    · obtain ⟨a, ha, rfl⟩ : ∃ n, as[i]? = some n ∧ x = V.ref n := by
        rw [List.getElem?_map] at hx
        cases e : as[i]? with
        | none => rw [e] at hx; cases hx
        | some n => rw [e] at hx; exact ⟨n, rfl, (Option.some.inj hx).symm⟩
      obtain ⟨r, r1, r2⟩ := hR.at ha
      have hrs := hs r (List.mem_of_getElem? r1)
      refine ⟨rfl, yes (iteT ?_)⟩
      refine ⟨.ref a, rfl, a, r, rfl, SqT.of (sm _ _ r2), hrs.1, hrs.2, fun H2 s2 => ⟨_, s2 _ _ hD, ?_, same_late (sm.trans s2) nD, ?_⟩⟩
      · rw [List.length_map]
        exact small1000 (Nat.le_trans (List.length_take_le' _ _) (by rw [List.length_map, List.length_map]; omega))
      · have e : ((ll.map rowL).map S)[i]? = some (S (rowL r)) := by rw [List.getElem?_map, List.getElem?_map, r1]; rfl
        rw [upd_same, List.take_add_one, e, List.map_append]
        rfl
    · rw [List.length_map, List.take_of_length_le (by rw [List.length_map, List.length_map]; omega)] at hD
      refine ⟨_, D, _, rfl, rfl, .inl (SqL.of hD), ?_, ?_⟩
      · exact sum_lensB hz hs
      · rw [join_lot]
        exact q H' sm
def spLotText (C : Addr) : Sp := fun vs H Q E => ∃ (p : Addr) (ll : List (List Int)), vs = [.ref p] ∧ LotAt H p ll ∧ ll.length ≤ 100 ∧ (∀ r ∈ ll, r.length ≤ 100) ∧ (flaw ll = none → ∀ H', Same H H' → Q (.str (S (lotL ll))) H') ∧ ∀ k, flaw ll = some k → Refd C "kind" "bad lot" (.int k) H E
theorem ok_lotText {f : Addr} {fd : FuncData} {C : Addr} (F : Fun K "lot_text" "lot_text" sLotText f fd) (CL : Cal P w K mg base (L2N.CX P w) 3 "look_lot" ["lot"] (spLook C)) (CR : Cal P w K mg base CX0 1 "row_text" ["row"] (spRowText K)) : FnOk P w K mg base (L2N.CX P w) 4 f fd ["lot"] (spLotText C) := by
  obtain ⟨fR, fdR, GR, gR, kR, bR⟩ := CR.ex
  obtain ⟨fL, fdL, GL, gL, kL, bL⟩ := CL.ex
  refine F.okN scLT (fun vs H Q E h => ?_) (fun cdv A outer s H vs Q E hr h => ?_)
  · obtain ⟨p, ll, rfl, _⟩ := h
    rfl
  · obtain ⟨p, ll, rfl, hLot, hz, hs, q1, q2⟩ := h
    refine ⟨_, (pss_cons (ps_expr (pe_call GL (hr.mono (by decide)) (by rfl) gL kL bL .nil (L2N.passes_call (L2N.takes_of rfl rfl rfl rfl) (fun _ _ _ _ h => h)) (pa_cons (pv 0) pa_nil)))
      (pss_one (ps_ret (pe_join pe_str (pe_lc (own := [("hold", 1)]) (g := gName 1) (tt := tYes) rfl scLT.nd (pi_tup (pv 0))
        (blkOk_by (own := [("hold", 1)]) (N := ["lot", "hold"]) (sc := defScope sLotText) (by decide +kernel)) (fun _ _ _ _ _ => pg_name (i := 1) scLT.nd rfl (Or.inl rfl)) (fun _ _ _ _ _ => pts_nil)
        (fun _ _ _ _ _ => (pe_call GR (hr.mono (by decide)) (by rfl) gR kR bR .nil pass0 (pa_cons (pv 1) pa_nil)))))))), ?_⟩
    refine ⟨.ref p, rfl, p, ll, rfl, hLot, Nat.le_trans hz (by decide), fun r hr => Nat.le_trans (hs r hr) (by decide), fun ef H0 s0 => ?_, q2⟩
    have hrw := flaw_rowsT ef
    have hs' : ∀ r ∈ ll, r.length ≤ 100 ∧ SmallN r := fun r hr => ⟨hs r hr, small_rows hrw r hr⟩
    obtain ⟨as, hp, hR⟩ := hLot.same s0
    have hlen := hR.len
    refine ⟨⟨_, rfl⟩, .ref p, rfl, p, rfl, ⟨_, SqT.of hp⟩, fun D nD => ?_⟩
    refine lc_tup (K := K) (a := p) (xs := as.map V.ref) (fun i H' => Same H0 H' ∧ H' D = some (.lst ((((ll.map rowL).map S).take i).map V.str))) ⟨same_new nD, upd_same⟩ (fun i H' _ ⟨sm, _⟩ => SqT.of (sm _ _ hp)) (fun i x H' hx ⟨sm, hD⟩ => ?_) (fun H' ⟨sm, hD⟩ => ?_)
    · obtain ⟨a, ha, rfl⟩ : ∃ n, as[i]? = some n ∧ x = V.ref n := by
        rw [List.getElem?_map] at hx
        cases e : as[i]? with
        | none => rw [e] at hx; cases hx
        | some n => rw [e] at hx; exact ⟨n, rfl, (Option.some.inj hx).symm⟩
      obtain ⟨r, r1, r2⟩ := hR.at ha
      have hrs := hs' r (List.mem_of_getElem? r1)
      refine ⟨rfl, yes (iteT ?_)⟩
      refine ⟨.ref a, rfl, a, r, rfl, SqT.of (sm _ _ r2), hrs.1, hrs.2, fun H2 s2 => ⟨_, s2 _ _ hD, ?_, same_late (sm.trans s2) nD, ?_⟩⟩
      · rw [List.length_map]
        exact small1000 (Nat.le_trans (List.length_take_le' _ _) (by rw [List.length_map, List.length_map]; omega))
      · have e : ((ll.map rowL).map S)[i]? = some (S (rowL r)) := by rw [List.getElem?_map, List.getElem?_map, r1]; rfl
        rw [upd_same, List.take_add_one, e, List.map_append]
        rfl
    · rw [List.length_map, List.take_of_length_le (by rw [List.length_map, List.length_map]; omega)] at hD
      refine ⟨_, D, _, rfl, rfl, .inl (SqL.of hD), ?_, ?_⟩
      · exact sum_lensB hz hs'
      · rw [join_lot]
        exact q1 ef H' (s0.trans sm)
/-! ### read_lot -/
def spReadLot (CT C : Addr) : Sp := fun vs H Q E => ∃ z : List Nat, vs = [.str (S z)] ∧ z.length ≤ 150 ∧ (okT z = false → Refd CT "at" "bad text" (.int 0) H E) ∧
  (okT z = true → (∀ k, flaw (rowsT z) = some k → Refd C "kind" "bad lot" (.int k) H E) ∧ (flaw (rowsT z) = none → ∀ H' p, Same H H' → LotAt H' p (rowsT z) → Q (.ref p) H'))
theorem ok_readLot {f : Addr} {fd : FuncData} {CT C : Addr} (F : Fun K "read_lot" "read_lot" sReadLot f fd) (B : Bl mg) (CL : Cal P w K mg base (L2N.CX P w) 3 "look_lot" ["lot"] (spLook C)) (CR : Cal P w K mg base (L2N.CX P w) 3 "read_row" ["text"] (spReadRow CT)) : FnOk P w K mg base (L2N.CX P w) 4 f fd ["text"] (spReadLot CT C) := by
  obtain ⟨fR, fdR, GR, gR, kR, bR⟩ := CR.ex
  obtain ⟨fL, fdL, GL, gL, kL, bL⟩ := CL.ex
  refine F.okN scRL (fun vs H Q E h => ?_) (fun cdv A outer s H vs Q E hr h => ?_)
  · obtain ⟨z, rfl, _⟩ := h
    rfl
  · obtain ⟨z, rfl, hz, q1, q2⟩ := h
    refine ⟨_, (pss_cons (ps_set (i := 1) scRL.nd rfl (.inl rfl) (pe_callTy call_tuple_of (by rfl) B.tuple (by decide +kernel) (pa_cons (H33.pe_lcN (E := E) (te := tCall (spReadRow CT) [] E (tCons (tVar 2) tNil)) (own := [("word", 2)]) (g := gName 2) (tt := tYes) rfl scRL.nd rfl rfl (L2N.takes_of (E := E) rfl rfl rfl rfl) (fun _ _ _ _ h => h) (pi_list (pe_split (pv 0) pe_str))
        (blkOk_by (own := [("word", 2)]) (N := ["text", "lot", "word"]) (sc := defScope sReadLot) (by decide +kernel)) (fun _ _ _ _ _ => pg_name (i := 2) scRL.nd rfl (Or.inl rfl)) (fun _ _ _ _ _ => pts_nil)
        (fun _ _ _ _ _ _ hp => (pe_call GR (hr.mono (by decide)) (by rfl) gR kR bR .nil hp (pa_cons (pv 2) pa_nil)))) pa_nil)))
      (pss_cons (ps_expr (pe_call GL (hr.mono (by decide)) (by rfl) gL kL bL .nil (L2N.passes_call (L2N.takes_of rfl rfl rfl rfl) (fun _ _ _ _ h => h)) (pa_cons (pv 1) pa_nil)))
      (pss_one (ps_ret (pv 1))))), ?_⟩
    obtain ⟨w1, w2⟩ := kinds_len z
    refine ⟨.str (S z), rfl, ⟨_, rfl⟩, S z, _, rfl, rfl, by decide +kernel, by rw [S_len]; exact sz1000 (by omega), fun p np => ?_⟩
    rw [sp_blank]
    have sp := same_new (o := .lst (((kindsOf z).map S).map V.str)) np
    refine ⟨p, rfl, ⟨_, SqL.of upd_same⟩, fun D nD => ?_⟩
    have hp : upd H p (.lst (((kindsOf z).map S).map V.str)) p = some (.lst (((kindsOf z).map S).map V.str)) := upd_same
    generalize upd H p (.lst (((kindsOf z).map S).map V.str)) = H0 at sp nD hp ⊢
    refine lc_list (K := K) (a := p) (xs := ((kindsOf z).map S).map V.str) (fun i H' => Same H0 H' ∧ (∀ u ∈ (kindsOf z).take i, (wordsOf u).all isNum = true) ∧ ∃ as : List Addr, H' D = some (.lst (as.map V.ref)) ∧ Rows H' as ((rowsT z).take i)) ⟨same_new nD, (fun u hu => by rw [List.take_zero] at hu; cases hu), [], upd_same, by rw [List.take_zero]; exact True.intro⟩ (fun i H' _ ⟨sm, _⟩ => SqL.of (sm _ _ hp)) (fun i x H' hx ⟨sm, hall, as, hD, hR⟩ => ?_) (fun H' ⟨sm, hall, as, hD, hR⟩ => ?_)
    · obtain ⟨u, hu, rfl⟩ := str_at hx
      have hum := List.mem_of_getElem? hu
      have hul := w2 u hum
      have hil := (List.getElem?_eq_some_iff.mp hu).1
      have er : (rowsT z)[i]? = some ((wordsOf u).map valW) := by unfold rowsT; rw [List.getElem?_map, hu]; rfl
      refine ⟨rfl, yes (iteT ?_)⟩
      refine ⟨_, rfl, u, rfl, by omega, fun hok H2 t s2 ht => ?_, fun hbad => ?_⟩
      · have hD2 := s2 _ _ hD
        refine ⟨_, hD2, ?_, same_late (sm.trans s2) nD, fun v hv => ?_, as ++ [t], by rw [upd_same, List.map_append]; rfl, ?_⟩
        · have := hR.len
          rw [List.length_take] at this
          rw [List.length_map]
          exact small1000 (by omega)
        · rw [List.take_add_one, hu] at hv
          rcases List.mem_append.mp hv with hv | hv
          · exact hall v hv
          · have : v = u := by simpa using hv
            rw [this]
            exact hok
        · rw [List.take_add_one, er]
          refine Rows.app ((hR.same s2).putL hD2) ?_
          refine ⟨?_, True.intro⟩
          rw [upd_ne (fun e => by have ht' : H2 t = some (.tup _) := ht; rw [e, hD2] at ht'; cases ht')]
          exact ht
      · refine Refd.same (q1 ?_) (sp.trans sm)
        cases e : okT z with
        | false => rfl
        | true =>
          have := List.all_eq_true.mp e u hum
          rw [hbad] at this
          cases this
    · rw [List.length_map, List.length_map, List.take_length] at hall
      rw [List.length_map, List.length_map, List.take_of_length_le (by unfold rowsT; rw [List.length_map]; exact Nat.le_refl _)] at hR
      have hok : okT z = true := List.all_eq_true.mpr hall
      obtain ⟨q3, q4⟩ := q2 hok
      refine ⟨D, _, rfl, .inl ⟨SqL.of hD, fun t nt => ?_⟩⟩
      have st := same_new (o := .tup (as.map V.ref)) nt
      have sa := sp.trans (sm.trans st)
      have hL : LotAt (upd H' t (.tup (as.map V.ref))) t (rowsT z) := ⟨as, upd_same, hR.same st⟩
      have rlen : (rowsT z).length ≤ 200 := by unfold rowsT; rw [List.length_map]; omega
      refine ⟨.ref t, rfl, t, rowsT z, rfl, hL, rlen, fun r hr => ?_, fun ef H3 s3 => ⟨.ref t, rfl, q4 ef H3 t (sa.trans s3) (hL.same s3)⟩, fun k hk => Refd.same (q3 k hk) sa⟩
      unfold rowsT at hr
      obtain ⟨u, hu, rfl⟩ := List.mem_map.mp hr
      rw [List.length_map]
      have h1 := w2 u hu
      have h2 := (words_len u).1
      omega
end
end HL

namespace HL
open PySem PySem.Spec PyProof.Rows L2
open C8 (pss_cut)
open SX (S S_len split_S join_S)
/-! ### lot_in_line -/
theorem scLL : FnScope ["written", "at"] ["written", "at"] (defScope sLotInLine) := ⟨rfl, rfl, rfl, by decide +kernel, rfl, by decide +kernel, by decide +kernel⟩
section
variable {P : Program} {w : World} {K : PySem.W.Frag} {mg : Str → Option Value} {base : Heap}
/-- BadText made while another exception is handled -/
theorem ok_textInitH {f : Addr} {fd : FuncData} {k : Nat} {C : Addr} (F : Fun K "__init__" "BadText.__init__" sTextInit f fd) (T : Cls2 K C "at") : L2H.FnH P w K mg base CX0 (k + 1) f fd ["self", "at"] (spInit2 C "at" "bad text") := by
  obtain ⟨_, _, _, _, _, _, _, _, _, rfl, lk, hcd⟩ := F.ex
  refine L2H.fn_ofH lk hcd scBT (fun vs H Q E h => ?_) (fun A outer s H vs Q E p hot hr h => ?_)
  · obtain ⟨a, v, rfl, _⟩ := h
    rfl
  · obtain ⟨a, v, rfl, ha, q⟩ := h
    refine ⟨_, pss_cons (ps_ost (pv 0) pe_str) (pss_one (ps_ost (pv 0) (pv 1))), ?_⟩
    refine ⟨.ref a, rfl, a, C, rfl, T.ox, T.noW, .inl ⟨ha, fun dx nd ne => ?_⟩⟩
    refine ⟨v, rfl, .ref a, rfl, a, C, rfl, T.ox, T.noF, .inr ⟨dx, _, upd_same, ?_, (by show 1 ≤ 900; decide), q dx nd ne⟩⟩
    rw [upd_ne ne, upd_same]
def spLotInLine (CT : Addr) : Sp := fun vs H Q E => ∃ (z : List Nat) (n : Int), vs = [.str (S z), .int n] ∧ z.length ≤ 150 ∧ ((okT z = false ∨ flaw (rowsT z) ≠ none) → Refd CT "at" "bad text" (.int n) H E) ∧
  (okT z = true → flaw (rowsT z) = none → ∀ H' p, Same H H' → LotAt H' p (rowsT z) → Q (.ref p) H')
theorem ok_lotInLine {f fI : Addr} {fd fdI : FuncData} {CT CB : Addr} (F : Fun K "lot_in_line" "lot_in_line" sLotInLine f fd) (c2 : Cls2 K CT "at") (gT : mg "BadText" = some (.ref CT)) (gB : mg "BadLot" = some (.ref CB))
    (iC : PySem.W.findIn K (.ref CT) "__init__" = some (some (.ref fI))) (tI : PySem.W.typeIn K (.ref fI) = some (.type "function")) (FI : Fun K "__init__" "BadText.__init__" sTextInit fI fdI)
    (mT : PySem.W.exmAny K (.ref CT) [.ref CT, .ref CB] = some true) (mB : PySem.W.exmAny K (.ref CB) [.ref CT, .ref CB] = some true)
    (CR : Cal P w K mg base (L2N.CX P w) 4 "read_lot" ["text"] (spReadLot CT CB)) : FnOk P w K mg base (L2.CX P w) 6 f fd ["written", "at"] (spLotInLine CT) := by
  obtain ⟨fR, fdR, GR, gR, kR, bR⟩ := CR.ex
  have GI : L2H.FnH P w K mg base CX0 1 fI fdI ["self", "at"] (spInit2 CT "at" "bad text") := ok_textInitH FI c2
  have bI : Binds K fdI ["self", "at"] [] := FI.binds (ps := ["self", "at"]) fun _ _ _ _ _ _ us hl => match us, hl with | [_, _], _ => rfl
  refine F.okX scLL (fun vs H Q E h => ?_) (fun cdv A outer s H vs Q E hr h => ?_)
  · obtain ⟨z, n, rfl, _⟩ := h
    rfl
  · obtain ⟨z, n, rfl, hz, q0, q1⟩ := h
    refine ⟨_, pss_one (H33.ps_try_tupX rfl rfl ⟨rfl, by decide, .inl gT⟩ ⟨rfl, by decide, .inl gB⟩ (fun hd => L2H.passesAt_of rfl hd) (takes_of rfl rfl rfl rfl)
      (fun W pn xe tk _ => pss_one (ps_ret (pe_callSD (ds := []) (dvs := []) GR (hr.mono (by decide)) (by rfl) gR kR bR .nil (fun σ => L2N.passAt tk σ) (pa_cons (pv 0) pa_nil))))
      (fun a oe cls d pn hz hv tkS hot => pss_one (L2H.ps_raiseHN hot tkS (L2H.pmk5_oexH c2.ox iC tI GI (L2H.roomH_mark (hr.mono (by decide)) _) hot bI pass0 (by rfl) gT (pa_cons (pv 1) pa_nil))))), ?_⟩
    refine ⟨.str (S z), rfl, z, rfl, hz, fun e H' d sm nd hd => ?_, fun e => ⟨fun k hk H' d sm nd hd => ?_, fun hf H' p sm hl => q1 e hf H' p sm hl⟩⟩
    · exact ⟨true, mT, fun _ a na => ⟨.int n, rfl, mk_refd ((q0 (.inl e)).same sm)⟩, fun z => Bool.noConfusion z⟩
    · exact ⟨true, mB, fun _ a na => ⟨.int n, rfl, mk_refd ((q0 (.inr (by rw [hk]; exact fun y => by cases y))).same sm)⟩, fun z => Bool.noConfusion z⟩
end
end HL

namespace HL
open PySem PySem.Spec PyProof.Rows L2
open C8 (pss_cut)
open SX (S S_len split_S join_S)
abbrev sShI : Stmt := inClass (topS 16) 0
abbrev sY (j : Nat) : Stmt := inClass (topS 30) j
section
variable {P : Program} {w : World} {K : PySem.W.Frag} {mg : Str → Option Value} {base : Heap}
def MCal (P : Program) (w : World) (K : PySem.W.Frag) (mg : Str → Option Value) (base : Heap) (CX : CXT) (k : Nat) (C : Addr) (m : Str) (ps : List Str) (sp : Sp) : Prop := ∃ (f : Addr) (fd : FuncData), FnOk P w K mg base CX k f fd ps sp ∧ Meth K C m f ∧ L2.Binds K fd ps []
def lets : List Nat := [97, 98, 99, 100, 101, 102, 103, 104, 105, 106, 107, 108, 109, 110, 111, 112, 113, 114, 115, 116, 117, 118, 119, 120, 121, 122]
theorem st_lets : (Str.ofString "abcdefghijklmnopqrstuvwxyz" : Str) = S lets := TL.ext_tl (by rw [TL.tl_ofString]; rfl)
def isNm (z : List Nat) : Bool := decide (1 ≤ z.length ∧ z.length ≤ 8) && z.all fun c => decide (c ∈ lets)
structure ConstsY (mg : Str → Option Value) : Prop where
  letters : ∃ t, mg "LETTERS" = some (.str "abcdefghijklmnopqrstuvwxyz" t)
  most : ∃ t, mg "MOST_LETTERS" = some (.int 8 t)
theorem scNm : FnScope ["name", "letter"] ["name"] (defScope sIsName) := ⟨rfl, rfl, rfl, by decide +kernel, rfl, by decide +kernel, by decide +kernel⟩
def spIsNm : Sp := fun vs H Q _ => ∃ z : List Nat, vs = [.str (S z)] ∧ z.length ≤ 1000 ∧ ∀ H', Same H H' → Q (.bl (isNm z)) H'
theorem ok_isNm {f : Addr} {fd : FuncData} {k : Nat} (F : Fun K "is_name" "is_name" sIsName f fd) (B : Bl mg) (M : ConstsY mg) : FnOk P w K mg base CX0 (k + 1) f fd ["name"] spIsNm := by
  obtain ⟨tF, mF⟩ := M.letters
  obtain ⟨t3, m3⟩ := M.most
  refine F.ok scNm (fun vs H Q E h => ?_) (fun cdv A outer s H vs Q E hr h => ?_)
  · obtain ⟨z, rfl, _⟩ := h
    rfl
  · obtain ⟨z, rfl, hz, q⟩ := h
    refine ⟨_, (pss_one (ps_ret (pe_and (pe_chain op_le op_le pe_int (pe_callB call_len_str (by rfl) B.len PySem.boot_len (pa_cons (pv 0) pa_nil)) (pe_glob (v := .int 8) rfl m3 ⟨_, rfl⟩)) (pe_one (pe_callB (cr_all rfl) (by rfl) B.all (by decide +kernel) (pa_cons (pe_lc (own := [("letter", 1)]) (g := gName 1) (tt := tYes) rfl scNm.nd (pi_str (pv 0))
        (blkOk_by (own := [("letter", 1)]) (N := ["name", "letter"]) (sc := defScope sIsName) (by decide +kernel)) (fun _ _ _ _ _ => pg_name (i := 1) scNm.nd rfl (Or.inl rfl)) (fun _ _ _ _ _ => pts_nil)
        (fun _ _ _ _ _ => pe_cmpR op_in_sign (pv 1) (pe_glob (v := .str "abcdefghijklmnopqrstuvwxyz") rfl mF ⟨_, rfl⟩) (by rfl))) pa_nil)))))), ?_⟩
    have lf : (S z).length ≤ sizeLine := by
      rw [S_len]
      exact sz1000 hz
    refine ⟨.str (S z), rfl, S z, rfl, lf, 1, _, rfl, rfl, _, rfl, ?_⟩
    rw [S_len]
    refine chainV ⟨_, rfl, ?_⟩
    refine ite2 (fun c1 => ?_) (fun c1 => ?_)
    · have c1' : 1 ≤ z.length ∧ z.length ≤ 8 := by
        simp at c1
        omega
      refine ⟨.str (S z), rfl, S z, rfl, fun D nD => ?_⟩
      refine lc_it walk_str (fun i H' => Same H H' ∧ H' D = some (.lst (((z.take i).map fun c => decide (c ∈ lets)).map V.bl))) ⟨same_new nD, upd_same⟩ (fun _ _ _ _ => True.intro) (fun i x H' H2 hi ⟨sm, hD⟩ ⟨eH, c, hc, ex⟩ => ?_) (fun H' ⟨sm, hD⟩ => ?_)
      · subst eH ex
        have hc' : z[i]? = some c := by simpa using hc
        refine ⟨rfl, yes (iteT ?_)⟩
        refine ⟨_, rfl, c, _, rfl, rfl, _, hD, ?_, same_late sm nD, ?_⟩
        · rw [List.length_map, List.length_map]
          exact small1000 (Nat.le_trans (List.length_take_le' _ _) hz)
        · rw [upd_same, List.take_add_one, hc', List.map_append, List.map_append, st_lets]
          rfl
      · have e0 : (S z).cps.size = z.length := S_len z
        rw [e0, List.take_length] at hD
        refine ⟨D, _, rfl, SqL.of hD, ?_⟩
        have eall : ((z.map fun c => decide (c ∈ lets)).all id) = z.all fun c => decide (c ∈ lets) := by
          rw [List.all_map]
          rfl
        rw [eall]
        have q1 := q H' sm
        unfold isNm at q1
        rw [decide_eq_true c1', Bool.true_and] at q1
        exact q1
    · have e : isNm z = false := by
        unfold isNm
        rw [decide_eq_false (fun y => c1 (by simp; omega)), Bool.false_and]
      have q1 := q H (Same.refl _)
      rw [e] at q1
      exact q1
/-! ### shelves -/
def shF (l : Int) (st so : Addr) : List (Str × V) := [("limit", .int l), ("stock", .ref st), ("store", .ref so)]
structure ShTxt (K : PySem.W.Frag) (mg : Str → Option Value) (C : Addr) : Prop where
  cl : Cls K C
  nL : NoAttr K C "limit"
  nS : NoAttr K C "stock"
  nT : NoAttr K C "store"
  mgC : mg "Shelf" = some (.ref C)
theorem lk2 {a b : Str} {v : V} {l : List (Str × V)} (h : (a == b) = false) : ((b, v) :: l).lookup a = l.lookup a := by rw [List.lookup_cons, h]
theorem sh_lim {l : Int} {st so : Addr} : (shF l st so).lookup ("limit" : Str) = some (.int l) := List.lookup_cons_self
theorem sh_stock {l : Int} {st so : Addr} : (shF l st so).lookup ("stock" : Str) = some (.ref st) := (lk2 (by decide +kernel)).trans List.lookup_cons_self
theorem sh_store {l : Int} {st so : Addr} : (shF l st so).lookup ("store" : Str) = some (.ref so) := (lk2 (by decide +kernel)).trans ((lk2 (by decide +kernel)).trans List.lookup_cons_self)
/-- a shelf without lots, of limit l -/
def ShE (C : Addr) (l : Int) (H0 H : Hp) (x : Addr) : Prop := ∃ dx st so, H x = some (.ins C dx (shF l st so)) ∧ H st = some (.dK []) ∧ H so = some (.dK []) ∧ st ≠ so ∧ H0 st = none ∧ H0 so = none
theorem ShE.mono {C : Addr} {l : Int} {H0 H1 H : Hp} {x : Addr} (h : ShE C l H0 H x) (m : ∀ a, H0 a = none → H1 a = none) : ShE C l H1 H x := by
  obtain ⟨dx, st, so, h1, h2, h3, h4, h5, h6⟩ := h
  exact ⟨dx, st, so, h1, h2, h3, h4, m _ h5, m _ h6⟩
theorem ShE.same {C : Addr} {l : Int} {H0 H H' : Hp} {x : Addr} (h : ShE C l H0 H x) (s : Same H H') : ShE C l H0 H' x := by
  obtain ⟨dx, st, so, h1, h2, h3, h4⟩ := h
  exact ⟨dx, st, so, s _ _ h1, s _ _ h2, s _ _ h3, h4⟩
/-- all stands but at x -/
def Kx1 (x : Addr) (H H' : Hp) : Prop := ∀ a o, H a = some o → a ≠ x → H' a = some o
theorem kx_none {x a : Addr} {H H' : Hp} (k : Kx1 x H H') (n : a ≠ x) (e : H' a = none) : H a = none := by
  cases c : H a with
  | none => rfl
  | some o =>
    rw [k a o c n] at e
    cases e
theorem scSI : FnScope ["self", "limit"] ["self", "limit"] (defScope sShI) := ⟨rfl, rfl, rfl, by decide +kernel, rfl, by decide +kernel, by decide +kernel⟩
def spShI (C : Addr) : Sp := fun vs H Q _ => ∃ (x dx : Addr) (l : Int), vs = [.ref x, .int l] ∧ H x = some (.ins C dx []) ∧ ∀ H', Kx1 x H H' → ShE C l H H' x → Q .non H'
theorem ok_shI {f C : Addr} {fd : FuncData} {k : Nat} (F : Fun K "__init__" "Shelf.__init__" sShI f fd) (T : ShTxt K mg C) : FnOk P w K mg base CX0 (k + 1) f fd ["self", "limit"] (spShI C) := by
  refine F.ok scSI (fun vs H Q E h => ?_) (fun cdv A outer s H vs Q E hr h => ?_)
  · obtain ⟨x, dx, l, rfl, _⟩ := h
    rfl
  · obtain ⟨x, dx, l, rfl, hx, q⟩ := h
    refine ⟨_, pss_cons (ps_fld (pv 0) (pv 1) rfl) (pss_cons (ps_fld (pv 0) pe_dnewK rfl) (pss_one (ps_fld (pv 0) pe_dnewK rfl))), ?_⟩
    refine ⟨.int l, rfl, .ref x, rfl, x, C, dx, _, rfl, hx, T.cl, T.nL, (by show 0 < 1000; decide), ?_⟩
    refine fun st n1 => ?_
    have e1 : putF ("limit" : Str) (V.int l) [] = ([("limit", V.int l)] : List (Str × V)) := rfl
    rw [e1] at n1 ⊢
    have sx : st ≠ x := fun z => by
      rw [z, upd_same] at n1
      cases n1
    have k1 : Kx1 x H (upd H x (.ins C dx [("limit", .int l)])) := fun a o e n => by
      rw [upd_ne n]
      exact e
    have h1 : (upd H x (.ins C dx [("limit", .int l)])) x = some (.ins C dx [("limit", .int l)]) := upd_same
    generalize upd H x (.ins C dx [("limit", .int l)]) = H1 at n1 k1 h1 ⊢
    refine ⟨.ref x, rfl, x, C, dx, _, rfl, by rw [upd_ne sx.symm]; exact h1, T.cl, T.nS, (by show 1 < 1000; decide), ?_⟩
    have e2 : putF ("stock" : Str) (V.ref st) [("limit", V.int l)] = ([("limit", V.int l), ("stock", V.ref st)] : List (Str × V)) := by
      show (if _ then _ else _) = _
      rw [if_neg (by decide +kernel)]
      rfl
    rw [e2]
    have k2 : Kx1 x H (upd (upd H1 st (.dK [])) x (.ins C dx [("limit", .int l), ("stock", .ref st)])) := fun a o e n => by
      rw [upd_ne n, upd_ne (ne_of_none (k1 a o e n) n1)]
      exact k1 a o e n
    have h2 : (upd (upd H1 st (.dK [])) x (.ins C dx [("limit", .int l), ("stock", .ref st)])) x = some (.ins C dx [("limit", .int l), ("stock", .ref st)]) := upd_same
    have g2 : (upd (upd H1 st (.dK [])) x (.ins C dx [("limit", .int l), ("stock", .ref st)])) st = some (.dK []) := by rw [upd_ne sx, upd_same]
    generalize upd (upd H1 st (.dK [])) x (.ins C dx [("limit", .int l), ("stock", .ref st)]) = H2 at k2 h2 g2 ⊢
    refine fun so n2 => ?_
    have ox : so ≠ x := fun z => by
      rw [z, h2] at n2
      cases n2
    have os : st ≠ so := ne_of_none g2 n2
    refine ⟨.ref x, rfl, x, C, dx, _, rfl, by rw [upd_ne ox.symm]; exact h2, T.cl, T.nT, (by show 2 < 1000; decide), ?_⟩
    have e3 : putF ("store" : Str) (V.ref so) [("limit", V.int l), ("stock", V.ref st)] = shF l st so := by
      show (if _ then _ else _) = _
      rw [if_neg (by decide +kernel)]
      show _ :: (if _ then _ else _) = _
      rw [if_neg (by decide +kernel)]
      rfl
    rw [e3]
    refine q _ (fun a o e n => ?_) ⟨dx, st, so, upd_same, by rw [upd_ne sx, upd_ne os]; exact g2, by rw [upd_ne ox, upd_same], os, kx_none k1 sx n1, kx_none k2 ox n2⟩
    rw [upd_ne n, upd_ne (ne_of_none (k2 a o e n) n2)]
    exact k2 a o e n
theorem mk_same {H H' : Hp} {x dx : Addr} {o1 o2 : HO} (n1 : H x = none) (n2 : H dx = none) (k : Kx1 x (upd (upd H dx o1) x o2) H') : Same H H' := fun a o e => by
  have ax := ne_of_none e n1
  refine k a o ?_ ax
  rw [upd_ne ax, upd_ne (ne_of_none e n2)]
  exact e
theorem upd_id {H : Hp} {a : Addr} {o : HO} (h : H a = some o) : upd H a o = H := by
  funext b
  by_cases e : b = a
  · rw [e, upd_same, h]
  · rw [upd_ne e]
structure MkS (P : Program) (w : World) (K : PySem.W.Frag) (mg : Str → Option Value) (base : Heap) (C : Addr) (k : Nat) : Prop where
  T : ShTxt K mg C
  ex : ∃ (f : Addr) (fd : FuncData), FnOk P w K mg base CX0 k f fd ["self", "limit"] (spShI C) ∧ Mk K C f ∧ L2.Binds K fd ["self", "limit"] []
/-- a yard of which nothing is told but that its shelf holds no lots -/
def YdE (CY CS : Addr) (l : Int) (H0 H : Hp) (y : Addr) : Prop := ∃ dy sh fs, H y = some (.ins CY dy ((("shelf" : Str), V.ref sh) :: fs)) ∧ (∀ m : Str, (["names", "lot"] : List Str).contains m = true → ((("shelf" : Str), V.ref sh) :: fs).lookup m = none) ∧ ShE CS l H0 H sh ∧ H0 sh = none
structure YdTxt (K : PySem.W.Frag) (mg : Str → Option Value) (C : Addr) : Prop where
  cl : Cls K C
  nS : NoAttr K C "shelf"
  nP : NoAttr K C "past"
  nF : NoAttr K C "future"
  nT : NoAttr K C "tally"
  mgC : mg "Yard" = some (.ref C)
theorem YdE.same {CY CS : Addr} {l : Int} {H0 H H' : Hp} {y : Addr} (h : YdE CY CS l H0 H y) (s : Same H H') : YdE CY CS l H0 H' y := by
  obtain ⟨dy, sh, fs, h1, h2, h3, h4⟩ := h
  exact ⟨dy, sh, fs, s _ _ h1, h2, h3.same s, h4⟩
theorem ShE.put {C CY dy y sh : Addr} {l : Int} {H0 H : Hp} {fs gs : List (Str × V)} (h : ShE C l H0 H sh) (hy : H y = some (.ins CY dy fs)) (n : sh ≠ y) : ShE C l H0 (upd H y (.ins CY dy gs)) sh := by
  obtain ⟨dx, st, so, h1, h2, h3, h4⟩ := h
  exact ⟨dx, st, so, by rw [upd_ne n]; exact h1, by rw [upd_ne (ne_of h2 hy (fun z => by cases z))]; exact h2, by rw [upd_ne (ne_of h3 hy (fun z => by cases z))]; exact h3, h4⟩
theorem scYI : FnScope ["self", "limit"] ["self", "limit"] (defScope (sY 0)) := ⟨rfl, rfl, rfl, by decide +kernel, rfl, by decide +kernel, by decide +kernel⟩
theorem scYL : FnScope ["self", "name", "lot"] ["self", "name", "lot"] (defScope (sY 1)) := ⟨rfl, rfl, rfl, by decide +kernel, rfl, by decide +kernel, by decide +kernel⟩
theorem scYD : FnScope ["self", "deed"] ["self", "deed"] (defScope (sY 8)) := ⟨rfl, rfl, rfl, by decide +kernel, rfl, by decide +kernel, by decide +kernel⟩
theorem scYA : FnScope ["self", "deeds", "fresh", "deed"] ["self", "deeds"] (defScope (sY 9)) := ⟨rfl, rfl, rfl, by decide +kernel, rfl, by decide +kernel, by decide +kernel⟩
def spYI (CY CS : Addr) : Sp := fun vs H Q _ => ∃ (y dy : Addr) (l : Int), vs = [.ref y, .int l] ∧ H y = some (.ins CY dy []) ∧ ∀ H', Kx1 y H H' → YdE CY CS l H H' y → Q .non H'
theorem pf1 {b v : V} : putF ("past" : Str) v [("shelf", b)] = ([("shelf", b), ("past", v)] : List (Str × V)) := by
  show (if _ then _ else _) = _
  rw [if_neg (by decide +kernel)]
  rfl
theorem pf2 {b c v : V} : putF ("future" : Str) v [("shelf", b), ("past", c)] = ([("shelf", b), ("past", c), ("future", v)] : List (Str × V)) := by
  show (if _ then _ else _) = _
  rw [if_neg (by decide +kernel)]
  show _ :: (if _ then _ else _) = _
  rw [if_neg (by decide +kernel)]
  rfl
theorem pf3 {b c d v : V} : putF ("tally" : Str) v [("shelf", b), ("past", c), ("future", d)] = ([("shelf", b), ("past", c), ("future", d), ("tally", v)] : List (Str × V)) := by
  show (if _ then _ else _) = _
  rw [if_neg (by decide +kernel)]
  show _ :: (if _ then _ else _) = _
  rw [if_neg (by decide +kernel)]
  show _ :: _ :: (if _ then _ else _) = _
  rw [if_neg (by decide +kernel)]
  rfl
theorem ok_yI {f CY CS : Addr} {fd : FuncData} {kws : List (Str × V)} (F : FunD K "__init__" "Yard.__init__" (defArgs (sY 0)) (defBody (sY 0)) (defScope (sY 0)) [] kws f fd) (T : YdTxt K mg CY) (MS : MkS P w K mg base CS 1) : FnOk P w K mg base CX0 3 f fd ["self", "limit"] (spYI CY CS) := by
  obtain ⟨fS, fdS, GS, MM, bS⟩ := MS.ex
  have TS := MS.T
  refine F.ok scYI (fun vs H Q E h => ?_) (fun cdv A outer s H vs Q E hr h => ?_)
  · obtain ⟨y, dy, l, rfl, _⟩ := h
    rfl
  · obtain ⟨y, dy, l, rfl, hy, q⟩ := h
    refine ⟨_, pss_cons (ps_fld (pv 0) (pe_make MM GS (hr.mono (by decide)) (by rfl) TS.mgC bS .nil pass0 (pa_cons (pv 1) pa_nil)) rfl)
      (pss_cons (ps_fld (pv 0) (pe_lst pa_nil) rfl) (pss_cons (ps_fld (pv 0) (pe_lst pa_nil) rfl) (pss_one (ps_fld (pv 0) pe_int rfl)))), ?_⟩
    refine ⟨.int l, rfl, fun x dx n1 n2 n3 => ⟨x, dx, l, rfl, upd_same, fun H1 k e => ⟨rfl, ?_⟩⟩⟩
    have sm := mk_same n1 n2 k
    have xy : x ≠ y := ne_of_none hy n1 |>.symm
    have y1 := sm _ _ hy
    refine ⟨.ref y, rfl, y, CY, dy, _, rfl, y1, T.cl, T.nS, (by show 0 < 1000; decide), ?_⟩
    have k1 : Kx1 y H (upd H1 y (.ins CY dy [("shelf", .ref x)])) := fun a o e n => by
      rw [upd_ne n]
      exact sm _ _ e
    have h1 : (upd H1 y (.ins CY dy [("shelf", .ref x)])) y = some (.ins CY dy [("shelf", .ref x)]) := upd_same
    have g1 : ShE CS l H (upd H1 y (.ins CY dy [("shelf", .ref x)])) x := (e.mono (fun a ha => by
      have ax : a ≠ x := fun c => by rw [c, upd_same] at ha; cases ha
      rw [upd_ne ax] at ha
      have ad : a ≠ dx := fun c => by rw [c, upd_same] at ha; cases ha
      rw [upd_ne ad] at ha
      exact ha)).put y1 xy
    have e1 : putF ("shelf" : Str) (V.ref x) [] = ([("shelf", V.ref x)] : List (Str × V)) := rfl
    rw [e1]
    generalize upd H1 y (.ins CY dy [("shelf", .ref x)]) = H2 at k1 h1 g1 ⊢
    refine ⟨Nat.zero_le _, fun pa np => ?_⟩
    have s2 := same_new (o := .lst []) np
    refine ⟨.ref y, rfl, y, CY, dy, _, rfl, s2 _ _ h1, T.cl, T.nP, (by show 1 < 1000; decide), ?_⟩
    rw [pf1]
    have k2 : Kx1 y H (upd (upd H2 pa (.lst [])) y (.ins CY dy [("shelf", .ref x), ("past", .ref pa)])) := fun a o e n => by
      rw [upd_ne n]
      exact s2 _ _ (k1 a o e n)
    have h2 : (upd (upd H2 pa (.lst [])) y (.ins CY dy [("shelf", .ref x), ("past", .ref pa)])) y = some (.ins CY dy [("shelf", .ref x), ("past", .ref pa)]) := upd_same
    have g2 : ShE CS l H (upd (upd H2 pa (.lst [])) y (.ins CY dy [("shelf", .ref x), ("past", .ref pa)])) x := (g1.same s2).put (s2 _ _ h1) xy
    generalize upd (upd H2 pa (.lst [])) y (.ins CY dy [("shelf", .ref x), ("past", .ref pa)]) = H3 at k2 h2 g2 ⊢
    refine ⟨Nat.zero_le _, fun fu nf => ?_⟩
    have s3 := same_new (o := .lst []) nf
    refine ⟨.ref y, rfl, y, CY, dy, _, rfl, s3 _ _ h2, T.cl, T.nF, (by show 2 < 1000; decide), ?_⟩
    rw [pf2]
    have k3 : Kx1 y H (upd (upd H3 fu (.lst [])) y (.ins CY dy [("shelf", .ref x), ("past", .ref pa), ("future", .ref fu)])) := fun a o e n => by
      rw [upd_ne n]
      exact s3 _ _ (k2 a o e n)
    have h3 : (upd (upd H3 fu (.lst [])) y (.ins CY dy [("shelf", .ref x), ("past", .ref pa), ("future", .ref fu)])) y = some (.ins CY dy [("shelf", .ref x), ("past", .ref pa), ("future", .ref fu)]) := upd_same
    have g3 : ShE CS l H (upd (upd H3 fu (.lst [])) y (.ins CY dy [("shelf", .ref x), ("past", .ref pa), ("future", .ref fu)])) x := (g2.same s3).put (s3 _ _ h2) xy
    generalize upd (upd H3 fu (.lst [])) y (.ins CY dy [("shelf", .ref x), ("past", .ref pa), ("future", .ref fu)]) = H4 at k3 h3 g3 ⊢
    refine ⟨.ref y, rfl, y, CY, dy, _, rfl, h3, T.cl, T.nT, (by show 3 < 1000; decide), ?_⟩
    rw [pf3]
    refine q _ (fun a o e n => ?_) ⟨dy, x, _, upd_same, fun m hm => ?_, g3.put h3 xy, n1⟩
    · rw [upd_ne n]
      exact k3 a o e n
    · have h : ∀ m ∈ (["names", "lot"] : List Str), (([("shelf", V.ref x), ("past", V.ref pa), ("future", V.ref fu), ("tally", V.int 0)] : List (Str × V)).lookup m) = none := by
        intro m hm
        simp only [List.mem_cons, List.mem_nil_iff, or_false] at hm
        rcases hm with rfl | rfl <;> exact (lk2 (by decide +kernel)).trans ((lk2 (by decide +kernel)).trans ((lk2 (by decide +kernel)).trans ((lk2 (by decide +kernel)).trans rfl)))
      exact h m (by simpa using hm)
end
end HL

namespace HL
open PySem PySem.Spec PyProof.Rows L2
open C8 (pss_cut)
open SX (S S_len split_S join_S)
/-! ### lay_down -/
theorem scLD : FnScope ["shelf", "name", "lot"] ["shelf", "name", "lot"] (defScope sLayDown) := ⟨rfl, rfl, rfl, by decide +kernel, rfl, by decide +kernel, by decide +kernel⟩
section
variable {P : Program} {w : World} {K : PySem.W.Frag} {mg : Str → Option Value} {base : Heap}
def spLayD (CS : Addr) : Sp := fun vs H Q _ => ∃ (sh dx st so : Addr) (l : Int) (z : Str) (v : V) (kvs evs : List (Key × V)), vs = [.ref sh, .str z, v] ∧ H sh = some (.ins CS dx (shF l st so)) ∧ H st = some (.dK kvs) ∧ H so = some (.dK evs) ∧ st ≠ so ∧ kvs.length < 100 ∧ evs.length < 100 ∧
  ∀ e, H e = none → Q .non (upd (upd (upd H st (.dK (putK kvs (.inr z) v))) e (.dK [])) so (.dK (putK evs (.inr z) (.ref e))))
theorem lt_line {n : Nat} (h : n < 100) : n < sizeLine := by rw [sizeLine_eq]; omega
theorem ok_layDown {f CS : Addr} {fd : FuncData} {k : Nat} (F : Fun K "lay_down" "lay_down" sLayDown f fd) (T : ShTxt K mg CS) : FnOk P w K mg base CX0 (k + 1) f fd ["shelf", "name", "lot"] (spLayD CS) := by
  refine F.ok scLD (fun vs H Q E h => ?_) (fun cdv A outer s H vs Q E hr h => ?_)
  · obtain ⟨sh, dx, st, so, l, z, v, kvs, evs, rfl, _⟩ := h
    rfl
  · obtain ⟨sh, dx, st, so, l, z, v, kvs, evs, rfl, hs, ht, ho, ne, l1, l2, q⟩ := h
    have hu : (A.deeper (envOfC "lay_down" (defScope sLayDown) s.heap.objs.size f cdv)).units + 1 < cLine := by
      have := hr.un
      omega
    refine ⟨_, pss_cons (ps_asg (pv 2) (pg_sub (pe_fld (pv 0) rfl) (pv 1) (set_dict hu)))
      (pss_one (ps_asg pe_dnewK (pg_sub (pe_fld (pv 0) rfl) (pv 1) (set_dict hu)))), ?_⟩
    refine ⟨v, rfl, .ref sh, rfl, sh, CS, dx, _, .ref st, rfl, hs, T.cl, T.nS, sh_stock, .str z, rfl, st, _, rfl, DPut.k (k := .inr z) ht (lt_line l1), ?_⟩
    intro e he
    have es : H e = none := by
      by_cases c : e = st
      · rw [c, upd_same] at he
        cases he
      · rw [upd_ne c] at he
        exact he
    have n1 : sh ≠ st := ne_of hs ht (fun z => by cases z)
    have n2 : sh ≠ e := fun c => by rw [c, es] at hs; cases hs
    have n3 : so ≠ e := fun c => by rw [c, es] at ho; cases ho
    refine ⟨.ref sh, rfl, sh, CS, dx, shF l st so, .ref so, rfl, ?_, T.cl, T.nT, sh_store, .str z, rfl, so, _, rfl, DPut.k (k := .inr z) (kvs := evs) ?_ (lt_line l2), q e es⟩
    · rw [upd_ne n2, upd_ne n1]
      exact hs
    · rw [upd_ne n3, upd_ne (Ne.symm ne)]
      exact ho
end
end HL

namespace HL
open PySem PySem.Spec PyProof.Rows L2
open C8 (pss_cut)
open SX (S S_len split_S join_S)
/-! ### yard_of -/
theorem scYO : FnScope ["stock", "fresh", "name"] ["stock"] (defScope sYardOf) := ⟨rfl, rfl, rfl, by decide +kernel, rfl, by decide +kernel, by decide +kernel⟩
/-- a yard whose shelf holds these lots -/
def YdK (CY CS : Addr) (H : Hp) (y : Addr) (kvs : List (Key × V)) : Prop := ∃ (dy sh dx st so : Addr) (fs : List (Str × V)) (evs : List (Key × V)) (l : Int), H y = some (.ins CY dy ((("shelf" : Str), V.ref sh) :: fs)) ∧
  (∀ m : Str, (["names", "lot"] : List Str).contains m = true → ((("shelf" : Str), V.ref sh) :: fs).lookup m = none) ∧ H sh = some (.ins CS dx (shF l st so)) ∧ H st = some (.dK kvs) ∧ H so = some (.dK evs) ∧ st ≠ so
theorem YdK.same {CY CS : Addr} {H H' : Hp} {y : Addr} {kvs : List (Key × V)} (h : YdK CY CS H y kvs) (s : Same H H') : YdK CY CS H' y kvs := by
  obtain ⟨dy, sh, dx, st, so, fs, evs, l, h1, h2, h3, h4, h5, h6⟩ := h
  exact ⟨dy, sh, dx, st, so, fs, evs, l, s _ _ h1, h2, s _ _ h3, s _ _ h4, s _ _ h5, h6⟩
theorem putK_last {κ : Type} [DecidableEq κ] {kvs : List (κ × V)} {k : κ} {v : V} (h : ∀ p ∈ kvs, p.1 ≠ k) : putK kvs k v = kvs ++ [(k, v)] := by
  unfold putK
  rw [if_neg]
  intro e
  obtain ⟨p, hp, hk⟩ := List.any_eq_true.mp e
  exact h p hp (of_decide_eq_true hk)
theorem valV_get {κ : Type} [DecidableEq κ] : ∀ {kvs : List (κ × V)} {i : Nat} {k : κ} {v : V}, (kvs.map (·.1)).Nodup → kvs[i]? = some (k, v) → valV kvs k = some v
  | [], i, _, _, _, e => by simp at e
  | p :: r, 0, k, v, _, e => by
    have e' : p = (k, v) := by simpa using e
    rw [e']
    exact valV_pos rfl
  | p :: r, i + 1, k, v, nd, e => by
    have e' : r[i]? = some (k, v) := by simpa using e
    have nd' : p.1 ∉ r.map (·.1) ∧ (r.map (·.1)).Nodup := List.nodup_cons.mp nd
    have ne : ¬ p.1 = k := fun c => nd'.1 (List.mem_map.mpr ⟨(k, v), List.mem_of_getElem? e', c.symm⟩)
    rw [valV_neg ne]
    exact valV_get nd'.2 e'
theorem take_apart {κ : Type} {kvs : List (κ × V)} {i : Nat} {k : κ} {v : V} (nd : (kvs.map (·.1)).Nodup) (e : kvs[i]? = some (k, v)) : ∀ p ∈ kvs.take i, p.1 ≠ k := by
  intro p hp c
  obtain ⟨j, hj, ej⟩ := List.mem_iff_getElem.mp hp
  have hj' : j < i ∧ j < kvs.length := by
    have := hj
    rw [List.length_take] at this
    omega
  have hi : i < kvs.length := (List.getElem?_eq_some_iff.mp e).1
  have ei : kvs[i] = (k, v) := (List.getElem?_eq_some_iff.mp e).2
  have ep : kvs[j]'hj'.2 = p := by
    rw [← ej, List.getElem_take]
  have q : (kvs.map (·.1))[j]'(by rw [List.length_map]; exact hj'.2) = (kvs.map (·.1))[i]'(by rw [List.length_map]; exact hi) := by
    rw [List.getElem_map, List.getElem_map, ep, ei]
    exact c
  have := (List.getElem_inj nd).mp q
  omega
theorem take_next {κ : Type} {kvs : List (κ × V)} {i : Nat} {k : κ} {v : V} (e : kvs[i]? = some (k, v)) : kvs.take i ++ [(k, v)] = kvs.take (i + 1) := by
  rw [List.take_add_one, e]
  rfl
section
variable {P : Program} {w : World} {K : PySem.W.Frag} {mg : Str → Option Value} {base : Heap}
structure MkY (P : Program) (w : World) (K : PySem.W.Frag) (mg : Str → Option Value) (base : Heap) (CY CS : Addr) : Prop where
  T : YdTxt K mg CY
  TS : ShTxt K mg CS
  ex : ∃ (f : Addr) (fd : FuncData) (t : Tok), FnOk P w K mg base CX0 3 f fd ["self", "limit"] (spYI CY CS) ∧ Mk K CY f ∧ L2.Binds K fd ["self", "limit"] [.int 8 t]
def spYardOf (CY CS : Addr) : Sp := fun vs H Q _ => ∃ (sd : Addr) (kvs : List (Key × V)) (ns : List Str), vs = [.ref sd] ∧ H sd = some (.dK kvs) ∧ kvs.length ≤ 8 ∧ kvs.map (·.1) = ns.map Sum.inr ∧ ns.Nodup ∧ ∀ H' y, Same H H' → H y = none → YdK CY CS H' y kvs → Q (.ref y) H'
theorem ok_yardOf {f CY CS : Addr} {fd : FuncData} (F : Fun K "yard_of" "yard_of" sYardOf f fd) (M : MkY P w K mg base CY CS) (CL : Cal P w K mg base CX0 1 "lay_down" ["shelf", "name", "lot"] (spLayD CS)) : FnOk P w K mg base CX0 5 f fd ["stock"] (spYardOf CY CS) := by
  obtain ⟨yf, yfd, yt, yG, yM, yB⟩ := M.ex
  obtain ⟨fL, fdL, GL, gL, kL, bL⟩ := CL.ex
  have T := M.T
  refine F.ok scYO (fun vs H Q E h => ?_) (fun cdv A outer s H vs Q E hr h => ?_)
  · obtain ⟨sd, kvs, ns, rfl, _⟩ := h
    rfl
  · obtain ⟨sd, kvs, ns, rfl, hd, h8, hk, nd, q⟩ := h
    have hu : (A.deeper (envOfC "yard_of" (defScope sYardOf) s.heap.objs.size f cdv)).units + 1 < cLine := by
      have := hr.un
      omega
    refine ⟨_, pss_cons (ps_set (i := 1) scYO.nd rfl (.inl rfl) (pe_make0 yM yG (hr.mono (by decide)) (by rfl) T.mgC yB (show Vals [V.int 8] [Value.int 8 yt] from .cons ⟨_, rfl⟩ .nil) pass0))
      (pss_cons (ps_lock (ps_for PassesOwn.never rfl (pi_keys (pv 0)) (pg_name (i := 2) scYO.nd rfl (.inl rfl))
        (pss_one (ps_expr (pe_call GL (hr.mono (by decide)) (by rfl) gL kL bL .nil pass0 (pa_cons (pe_fld (pv 1) rfl) (pa_cons (pv 2) (pa_cons (pe_dget hu (pv 0) (pv 2) (fun _ _ => rfl)) pa_nil))))))))
      (pss_one (ps_ret (pv 1)))), ?_⟩
    refine fun y dy n1 n2 n3 => ⟨y, dy, 8, rfl, upd_same, fun H1 k hY => ⟨rfl, ?_⟩⟩
    have sm := mk_same n1 n2 k
    have fr : ∀ a, (upd (upd H dy (.own y)) y (.ins CY dy [])) a = none → H a = none := fun a ha => by
      have ax : a ≠ y := fun c => by rw [c, upd_same] at ha; cases ha
      rw [upd_ne ax] at ha
      have ad : a ≠ dy := fun c => by rw [c, upd_same] at ha; cases ha
      rw [upd_ne ad] at ha
      exact ha
    have yn : H y = none := n1
    obtain ⟨d1, sh, fs, e1, e2, ⟨dx, st, so, e3, e4, e5, e6, e7, e8⟩, e9⟩ := hY
    have f7 := fr _ e7
    have f8 := fr _ e8
    have f9 := fr _ e9
    have d0 := sm _ _ hd
    have nst : st ≠ sd := fun c => by rw [c, hd] at f7; cases f7
    have nso : so ≠ sd := fun c => by rw [c, hd] at f8; cases f8
    have nsh : sh ≠ sd := fun c => by rw [c, hd] at f9; cases f9
    have nsy : y ≠ sd := fun c => by rw [c, hd] at n1; cases n1
    refine ⟨sd, _, d0, True.intro, fun od => ?_⟩
    refine ⟨.ref sd, rfl, sd, od, rfl, .inl ⟨kvs, upd_same, ?_⟩⟩
    have ndk : (kvs.map (·.1)).Nodup := by
      rw [hk]
      exact List.Pairwise.map Sum.inr (fun a b h e => h (Sum.inr.inj e)) nd
    refine for_it walk_keys (fun i σ H4 => ∃ (evs : List (Key × V)) (nm : Option V), σ = [some (.ref sd), some (.ref y), nm] ∧ H4 sd = some (.frz od (.dK kvs)) ∧ (∀ a o, H a = some o → a ≠ sd → H4 a = some o) ∧ H4 y = some (.ins CY d1 ((("shelf" : Str), V.ref sh) :: fs)) ∧ H4 sh = some (.ins CS dx (shF 8 st so)) ∧
      H4 st = some (.dK (kvs.take i)) ∧ H4 so = some (.dK evs) ∧ evs.map (·.1) = (kvs.take i).map (·.1)) ?_ ?_ ?_ ?_
    · exact ⟨[], none, rfl, upd_same, fun a o e n => by rw [upd_ne n]; exact sm _ _ e, by rw [upd_ne nsy]; exact e1, by rw [upd_ne nsh]; exact e3, by rw [upd_ne nst]; exact e4, by rw [upd_ne nso]; exact e5, rfl⟩
    · rintro i σ H4 _ ⟨_, _, _, h, _⟩
      exact h
    · rintro i x σ H4 H5 hi ⟨evs, nm, rfl, g1, g2, g3, g4, g5, g6, g7⟩ ⟨rfl, kk, v, ek, rfl⟩
      obtain ⟨z, rfl⟩ : ∃ z, kk = .inr z := by
        have m : kk ∈ kvs.map (·.1) := List.mem_map.mpr ⟨_, List.mem_of_getElem? ek, rfl⟩
        rw [hk] at m
        obtain ⟨z, _, ez⟩ := List.mem_map.mp m
        exact ⟨z, ez.symm⟩
      have lt : (kvs.take i).length ≤ 8 := by rw [List.length_take]; omega
      have le : evs.length ≤ 8 := by
        have := congrArg List.length g7
        rw [List.length_map, List.length_map] at this
        omega
      refine ⟨.ref y, rfl, y, CY, d1, _, .ref sh, rfl, g3, T.cl, T.nS, List.lookup_cons_self, .str z, rfl, .ref sd, rfl, .str z, rfl, sd, v, rfl, .inl ⟨kvs, .inr z, .inr ⟨od, g1⟩, rfl, (valV_get ndk ek).symm⟩, ?_⟩
      refine ⟨sh, dx, st, so, 8, z, v, kvs.take i, evs, rfl, g4, g5, g6, e6, by omega, by omega, fun e he => ?_⟩
      have ap := take_apart ndk ek
      have ap2 : ∀ p ∈ evs, p.1 ≠ Sum.inr z := fun p hp c => by
        have m : p.1 ∈ evs.map (·.1) := List.mem_map.mpr ⟨p, hp, rfl⟩
        rw [g7] at m
        obtain ⟨r, hr', er⟩ := List.mem_map.mp m
        exact ap r hr' (er.trans c)
      rw [putK_last ap, putK_last ap2, take_next ek]
      have ns : ∀ {a : Addr} {o : HO}, H5 a = some o → a ≠ e := fun {a o} h c => by rw [c, he] at h; cases h
      have y1 : y ≠ st := ne_of g3 g5 (fun z => by cases z)
      have y2 : y ≠ so := ne_of g3 g6 (fun z => by cases z)
      have s1 : sh ≠ st := ne_of g4 g5 (fun z => by cases z)
      have s2 : sh ≠ so := ne_of g4 g6 (fun z => by cases z)
      refine ⟨evs ++ [(.inr z, .ref e)], _, rfl, ?_, fun a o ha na => ?_, ?_, ?_, ?_, upd_same, ?_⟩
      · rw [upd_ne (Ne.symm nso), upd_ne (ns g1), upd_ne (Ne.symm nst)]
        exact g1
      · have n1' : a ≠ st := fun c => by rw [c, f7] at ha; cases ha
        have n2' : a ≠ so := fun c => by rw [c, f8] at ha; cases ha
        rw [upd_ne n2', upd_ne (ns (g2 a o ha na)), upd_ne n1']
        exact g2 a o ha na
      · rw [upd_ne y2, upd_ne (ns g3), upd_ne y1]
        exact g3
      · rw [upd_ne s2, upd_ne (ns g4), upd_ne s1]
        exact g4
      · rw [upd_ne e6, upd_ne (ns g5), upd_same]
      · rw [List.map_append, g7, ← take_next ek, List.map_append]
        rfl
    · rintro σ H4 ⟨evs, nm, rfl, g1, g2, g3, g4, g5, g6, g7⟩
      refine ⟨g1, .ref y, rfl, q _ y (fun a o ha => ?_) yn ⟨d1, sh, dx, st, so, fs, evs, 8, by rw [upd_ne nsy]; exact g3, e2, by rw [upd_ne nsh]; exact g4, ?_, by rw [upd_ne nso]; exact g6, e6⟩⟩
      · by_cases c : a = sd
        · rw [c, upd_same]
          rw [c, hd] at ha
          exact ha
        · rw [upd_ne c]
          exact g2 a o ha c
      · rw [upd_ne nst, g5, List.take_of_length_le (Nat.le_refl _)]
end
end HL

namespace HL
open PySem PySem.Spec PyProof.Rows L2
open SX (S S_len split_S join_S)
theorem spl_ne53 (s : List Nat) : ∀ (z acc : List Nat), TL.spl [32] 0 acc z ≠ [] ∧ TL.spl [44] 0 acc z ≠ []
  | [], acc => by rw [TL.spl_nil, TL.spl_nil]; exact ⟨List.cons_ne_nil _ _, List.cons_ne_nil _ _⟩
  | c :: r, acc => by
    constructor
    · cases e : TL.pre [32] (c :: r) with
      | true => rw [TL.spl_hit e]; exact List.cons_ne_nil _ _
      | false => rw [TL.spl_miss e]; exact (spl_ne53 s r _).1
    · cases e : TL.pre [44] (c :: r) with
      | true => rw [TL.spl_hit e]; exact List.cons_ne_nil _ _
      | false => rw [TL.spl_miss e]; exact (spl_ne53 s r _).2
theorem kinds_ne53 (z : List Nat) : kindsOf z ≠ [] := (spl_ne53 [] z []).1
/-! ### a line of a page: its name, what is written behind the first blank -/
def nmOf (u : List Nat) : List Nat := u.takeWhile (fun c => decide (c ≠ 32))
def wrOf (u : List Nat) : List Nat := (u.dropWhile (fun c => decide (c ≠ 32))).drop 1
theorem nm_free (u : List Nat) : 32 ∉ nmOf u := fun h => by
  have h2 : decide ((32 : Nat) ≠ 32) = true := List.all_eq_true.mp (List.all_takeWhile (l := u) (p := fun c => decide (c ≠ 32))) _ h
  simp at h2
theorem line_cut : ∀ {u : List Nat}, 32 ∈ u → u = nmOf u ++ (32 :: wrOf u)
  | [], h => by cases h
  | c :: r, h => by
    by_cases e : c = 32
    · subst e
      rfl
    · have h' : 32 ∈ r := by
        rcases List.mem_cons.mp h with q | q
        · exact absurd q.symm e
        · exact q
      have d : decide (c ≠ 32) = true := decide_eq_true e
      have i := line_cut h'
      have e1 : nmOf (c :: r) = c :: nmOf r := List.takeWhile_cons_of_pos d
      have e2 : wrOf (c :: r) = wrOf r := by
        unfold wrOf
        rw [List.dropWhile_cons_of_pos (p := fun c => decide (c ≠ 32)) d]
      rw [e1, e2, List.cons_append, ← i]
theorem line_whole : ∀ {u : List Nat}, 32 ∉ u → nmOf u = u ∧ wrOf u = []
  | [], _ => ⟨rfl, rfl⟩
  | c :: r, h => by
    have e : c ≠ 32 := fun q => h (by rw [q]; exact List.mem_cons_self)
    have h' : 32 ∉ r := fun q => h (List.mem_cons_of_mem _ q)
    have d : decide (c ≠ 32) = true := decide_eq_true e
    obtain ⟨i1, i2⟩ := line_whole h'
    refine ⟨?_, ?_⟩
    · rw [show nmOf (c :: r) = c :: nmOf r from List.takeWhile_cons_of_pos d, i1]
    · unfold wrOf
      rw [List.dropWhile_cons_of_pos (p := fun c => decide (c ≠ 32)) d]
      exact i2
theorem nm_len (u : List Nat) : (nmOf u).length ≤ u.length := (List.takeWhile_sublist _).length_le
theorem wrO_len (u : List Nat) : (wrOf u).length ≤ u.length := by
  unfold wrOf
  rw [List.length_drop]
  have : (u.dropWhile fun c => decide (c ≠ 32)).length ≤ u.length := (List.dropWhile_sublist _).length_le
  omega
theorem part_line (u : List Nat) : (Txt.partition (S u) (S [32])).1 = S (nmOf u) ∧ (Txt.partition (S u) (S [32])).2.2 = S (wrOf u) := by
  by_cases h : 32 ∈ u
  · have e : TL.par [32] [] u = some (nmOf u, wrOf u) := by
      have q := TL.par_part1 (s := 32) (S := []) (p := nmOf u) (rest := wrOf u) (acc := []) (nm_free u)
      have e2 : nmOf u ++ ([32] ++ wrOf u) = u := (line_cut h).symm
      rw [e2] at q
      exact q
    rw [SX.partition_some (by decide) e]
    exact ⟨rfl, rfl⟩
  · obtain ⟨e1, e2⟩ := line_whole h
    rw [SX.partition_none (by decide) (TL.par_none1 (S := []) h), e1, e2]
    exact ⟨rfl, rfl⟩
theorem kinds_cut {u : List Nat} (h : 32 ∈ u) : kindsOf u = nmOf u :: kindsOf (wrOf u) := by
  have q := TL.spl_part1 (s := 32) (S := []) (p := nmOf u) (rest := wrOf u) (acc := []) (nm_free u)
  have e2 : nmOf u ++ ([32] ++ wrOf u) = u := (line_cut h).symm
  rw [e2] at q
  exact q
theorem kinds_whole {u : List Nat} (h : 32 ∉ u) : kindsOf u = [u] := TL.spl_last1 (s := 32) (S := []) (acc := []) h
theorem kinds_back : ∀ (n : Nat) (z : List Nat), z.length ≤ n → TL.joinL [32] (kindsOf z) = z
  | 0, z, h => by
    cases z with
    | nil => rfl
    | cons _ _ => simp at h
  | n + 1, z, h => by
    by_cases c : 32 ∈ z
    · have e := line_cut c
      have l := congrArg List.length e
      rw [List.length_append, List.length_cons] at l
      rw [kinds_cut c]
      have i := kinds_back n (wrOf z) (by omega)
      cases k : kindsOf (wrOf z) with
      | nil => exact absurd k (kinds_ne53 _)
      | cons p r =>
        rw [k] at i
        show nmOf z ++ ([32] ++ TL.joinL [32] (p :: r)) = z
        rw [i]
        exact e.symm
    · rw [kinds_whole c]
      rfl
end HL

namespace HL
open PySem PySem.Spec PyProof.Rows L2
open C8 (pss_cut)
open SX (S S_len split_S join_S)
/-! ### pages -/
def linesOf (z : List Nat) : List (List Nat) := TL.spl [10] 0 [] z
theorem st_line : (Str.ofString "\n" : Str) = S [10] := TL.ext_tl (by rw [TL.tl_ofString]; rfl)
theorem sp_line (z : List Nat) : Txt.split (S z) (Str.ofString "\n") = (linesOf z).map S := by rw [st_line]; exact split_S (by decide) (by decide)
/-- the line u, the i-th, behind the name ah, is a lot's -/
def lnOk (i : Nat) (ah u : List Nat) : Bool := isNm (nmOf u) && (decide (ah < nmOf u) && (decide (i < 8) && (okT (wrOf u) && (flaw (rowsT (wrOf u))).isNone)))
def pgG : Nat → List Nat → List (List Nat) → Option Nat
  | _, _, [] => none
  | i, ah, u :: r => if lnOk i ah u = true then pgG (i + 1) (nmOf u) r else some i
def pgF (z : List Nat) : Option Nat := match pgG 0 [] (linesOf z).dropLast with
  | some i => some i
  | none => if (linesOf z).getLast? = some [] then none else some ((linesOf z).length - 1)
def ahd (ah : List Nat) : List (List Nat) → List Nat
  | [] => ah
  | u :: r => ahd (nmOf u) r
theorem ahd_app {u : List Nat} : ∀ {l : List (List Nat)} {ah : List Nat}, ahd ah (l ++ [u]) = nmOf u
  | [], _ => rfl
  | _ :: r, _ => ahd_app (l := r)
theorem pgG_app {u : List Nat} {r : List (List Nat)} : ∀ {l : List (List Nat)} {k : Nat} {ah : List Nat}, pgG k ah l = none → pgG k ah (l ++ u :: r) = if lnOk (k + l.length) (ahd ah l) u = true then pgG (k + l.length + 1) (nmOf u) r else some (k + l.length)
  | [], k, ah, _ => rfl
  | v :: l, k, ah, h => by
    unfold pgG at h
    by_cases e : lnOk k ah v = true
    · rw [if_pos e] at h
      have i := pgG_app (u := u) (r := r) h
      show (if lnOk k ah v = true then pgG (k + 1) (nmOf v) (l ++ u :: r) else some k) = _
      rw [if_pos e, i, List.length_cons, show k + 1 + l.length = k + (l.length + 1) by omega]
      rfl
    · rw [if_neg e] at h
      cases h
theorem pgG_step {us : List (List Nat)} {i : Nat} {u : List Nat} (h : pgG 0 [] (us.take i) = none) (e : us[i]? = some u) : (lnOk i (ahd [] (us.take i)) u = true → pgG 0 [] (us.take (i + 1)) = none) ∧ (lnOk i (ahd [] (us.take i)) u = false → pgG 0 [] us = some i) := by
  have hi : i < us.length := (List.getElem?_eq_some_iff.mp e).1
  have len : (us.take i).length = i := by rw [List.length_take]; omega
  refine ⟨fun ok => ?_, fun no => ?_⟩
  · have t : us.take (i + 1) = us.take i ++ u :: [] := by
      rw [List.take_add_one, e]
      rfl
    rw [t, pgG_app h, len, Nat.zero_add, if_pos ok]
    rfl
  · have t : us = us.take i ++ u :: us.drop (i + 1) := by
      have d : us.drop i = u :: us.drop (i + 1) := by
        rw [List.drop_eq_getElem_cons hi, (List.getElem?_eq_some_iff.mp e).2]
      rw [← d, List.take_append_drop]
    have q := pgG_app (r := us.drop (i + 1)) (u := u) h
    rw [← t, len, Nat.zero_add, no] at q
    exact q
end HL

set_option pp.maxSteps 1500
namespace HL
open PySem PySem.Spec PyProof.Rows L2
open SX (S S_len split_S join_S)
/-! ### the names of a page rise -/
theorem lnOk_of {i : Nat} {ah u : List Nat} (h : lnOk i ah u = true) : isNm (nmOf u) = true ∧ ah < nmOf u ∧ i < 8 ∧ okT (wrOf u) = true ∧ flaw (rowsT (wrOf u)) = none := by
  unfold lnOk at h
  simp only [Bool.and_eq_true, decide_eq_true_eq, Option.isNone_iff_eq_none] at h
  exact h
theorem pgG_cons {k : Nat} {ah u : List Nat} {r : List (List Nat)} (h : pgG k ah (u :: r) = none) : lnOk k ah u = true ∧ pgG (k + 1) (nmOf u) r = none := by
  unfold pgG at h
  by_cases e : lnOk k ah u = true
  · rw [if_pos e] at h
    exact ⟨e, h⟩
  · rw [if_neg e] at h
    cases h
theorem lt_tr {a b c : List Nat} (h1 : a < b) (h2 : b < c) : a < c := List.lt_trans h1 h2
theorem ahd_top : ∀ {l : List (List Nat)} {k : Nat} {ah : List Nat}, pgG k ah l = none → (ah = ahd ah l ∨ ah < ahd ah l) ∧ ∀ v ∈ l, ah < nmOf v ∧ (nmOf v = ahd ah l ∨ nmOf v < ahd ah l)
  | [], _, _, _ => ⟨.inl rfl, fun v hv => by cases hv⟩
  | u :: r, k, ah, h => by
    obtain ⟨h1, h2⟩ := pgG_cons h
    have h3 := (lnOk_of h1).2.1
    obtain ⟨i1, i2⟩ := ahd_top h2
    have e : ahd ah (u :: r) = ahd (nmOf u) r := rfl
    rw [e]
    refine ⟨.inr (by rcases i1 with i1 | i1; (· rw [← i1]; exact h3); (· exact lt_tr h3 i1)), fun v hv => ?_⟩
    rcases List.mem_cons.mp hv with rfl | hv
    · exact ⟨h3, i1⟩
    · obtain ⟨j1, j2⟩ := i2 v hv
      exact ⟨lt_tr h3 j1, j2⟩
theorem pgG_rise : ∀ {l : List (List Nat)} {k : Nat} {ah : List Nat}, pgG k ah l = none → (l.map nmOf).Pairwise (· < ·)
  | [], _, _, _ => List.Pairwise.nil
  | u :: r, k, ah, h => by
    obtain ⟨h1, h2⟩ := pgG_cons h
    refine List.pairwise_cons.mpr ⟨fun v hv => ?_, pgG_rise h2⟩
    obtain ⟨x, hx, rfl⟩ := List.mem_map.mp hv
    exact ((ahd_top h2).2 x hx).1
theorem pgG_all : ∀ {l : List (List Nat)} {k : Nat} {ah : List Nat}, pgG k ah l = none → l.length + k ≤ 8 ∨ l = []
  | [], _, _, _ => .inr rfl
  | u :: r, k, ah, h => by
    obtain ⟨h1, h2⟩ := pgG_cons h
    have h3 := (lnOk_of h1).2.2.1
    rcases pgG_all h2 with i | i
    · refine .inl ?_
      rw [List.length_cons]
      omega
    · refine .inl ?_
      rw [i, List.length_cons, List.length_nil]
      omega
theorem pgG_few {l : List (List Nat)} (h : pgG 0 [] l = none) : l.length ≤ 8 := by
  rcases pgG_all h with i | i
  · omega
  · rw [i]; exact Nat.zero_le _
theorem pgG_each : ∀ {l : List (List Nat)} {k : Nat} {ah : List Nat}, pgG k ah l = none → ∀ u ∈ l, isNm (nmOf u) = true ∧ okT (wrOf u) = true ∧ flaw (rowsT (wrOf u)) = none
  | [], _, _, _ => fun u hu => by cases hu
  | v :: r, k, ah, h => fun u hu => by
    obtain ⟨h1, h2⟩ := pgG_cons h
    rcases List.mem_cons.mp hu with rfl | hu
    · have := lnOk_of h1
      exact ⟨this.1, this.2.2.2⟩
    · exact pgG_each h2 u hu
/-- sorted texts that rise already -/
theorem srt_same : ∀ {ys xs : List (List Nat)}, (ys.map S).Perm (xs.map S) → sortedS (ys.map S) = true → xs.Pairwise (· < ·) → ys = xs := by
  have fromS : ∀ (r : List (List Nat)) (p : List Nat), risingS (S p) (r.map S) = true → ∀ q ∈ r, ¬ q < p := by
    intro r
    induction r with
    | nil => intro p _ q hq; cases hq
    | cons x r ih =>
      intro p h q hq
      have h' : (!ltCps (S x).cps.toList (S p).cps.toList && risingS (S x) (r.map S)) = true := h
      rw [Bool.and_eq_true, ltCps_eq] at h'
      have hx : ¬ x < p := fun y => by
        have := h'.1
        rw [show decide ((S x).cps.toList < (S p).cps.toList) = true from decide_eq_true y] at this
        cases this
      rcases List.mem_cons.mp hq with rfl | hq
      · exact hx
      · have hqx := ih x h'.2 q hq
        intro y
        by_cases c : q = x
        · exact hx (c ▸ y)
        · have : x < q := by
            by_cases d : x < q
            · exact d
            · exact absurd (List.le_antisymm (List.not_lt.mp d) (List.not_lt.mp hqx)) c
          exact hx (lt_tr this y)
  have pwS : ∀ (r : List (List Nat)), sortedS (r.map S) = true → r.Pairwise (fun a b => ¬ b < a) := by
    intro r
    induction r with
    | nil => intro _; exact List.Pairwise.nil
    | cons x r ih =>
      intro h
      have h' : risingS (S x) (r.map S) = true := h
      refine List.pairwise_cons.mpr ⟨fromS r x h', ih ?_⟩
      cases r with
      | nil => rfl
      | cons y r =>
        have h2 : (!ltCps (S y).cps.toList (S x).cps.toList && risingS (S y) (r.map S)) = true := h'
        rw [Bool.and_eq_true] at h2
        exact h2.2
  have key : ∀ (ys xs : List (List Nat)), ys.Perm xs → ys.Pairwise (fun a b => ¬ b < a) → xs.Pairwise (fun a b => ¬ b < a) → ys = xs := by
    intro ys
    induction ys with
    | nil => intro xs p _ _; exact (List.nil_perm.mp p).symm
    | cons a A ih =>
      intro xs p hA hB
      cases xs with
      | nil => exact absurd p.length_eq (by simp)
      | cons b B =>
        obtain ⟨a1, a2⟩ := List.pairwise_cons.mp hA
        obtain ⟨b1, b2⟩ := List.pairwise_cons.mp hB
        have e : a = b := by
          rcases List.mem_cons.mp (p.mem_iff.mp (List.mem_cons_self (a := a))) with h | h
          · exact h
          · rcases List.mem_cons.mp (p.mem_iff.mpr (List.mem_cons_self (a := b))) with g | g
            · exact g.symm
            · exact List.le_antisymm (List.not_lt.mp (a1 b g)) (List.not_lt.mp (b1 a h)) 
        subst e
        rw [ih B (List.Perm.cons_inv p) a2 b2]
  intro ys xs p hs hr
  have p' : ys.Perm xs := by
    have q := p.map (fun s : Str => s.cps.toList)
    rw [List.map_map, List.map_map] at q
    have id1 : ∀ l : List (List Nat), l.map ((fun s : Str => s.cps.toList) ∘ S) = l := fun l => by
      rw [show ((fun s : Str => s.cps.toList) ∘ S) = id from rfl, List.map_id]
    rw [id1, id1] at q
    exact q
  refine key ys xs p' (pwS ys hs) (hr.imp fun {a b} h y => ?_)
  exact List.lt_irrefl a (lt_tr h y)
end HL

set_option pp.maxSteps 1500
set_option pp.deepTerms false
namespace HL
open PySem PySem.Spec PyProof.Rows L2
open C8 (pss_cut)
open SX (S S_len split_S join_S)
theorem spl_ne10 (z acc : List Nat) : TL.spl [10] 0 acc z ≠ [] := by
  induction z generalizing acc with
  | nil => rw [TL.spl_nil]; exact List.cons_ne_nil _ _
  | cons c r ih =>
    cases e : TL.pre [10] (c :: r) with
    | true => rw [TL.spl_hit e]; exact List.cons_ne_nil _ _
    | false => rw [TL.spl_miss e]; exact ih _
theorem scRP : FnScope ["text", "lines", "stock", "ahead", "at", "line", "name", "blank", "written"] ["text"] (defScope sReadPage) := ⟨rfl, rfl, rfl, by decide +kernel, rfl, by decide +kernel, by decide +kernel⟩
/-- a table holds the lots of these lines under their names -/
def Stk (H : Hp) (kvs : List (Key × V)) (us : List (List Nat)) : Prop := kvs.length = us.length ∧ ∀ (i : Nat) (u : List Nat), us[i]? = some u → ∃ p, kvs[i]? = some (.inr (S (nmOf u)), .ref p) ∧ LotAt H p (rowsT (wrOf u))
theorem Stk.same {H H' : Hp} {kvs : List (Key × V)} {us : List (List Nat)} (h : Stk H kvs us) (s : Same H H') : Stk H' kvs us := ⟨h.1, fun i u e => by
  obtain ⟨p, h1, h2⟩ := h.2 i u e
  exact ⟨p, h1, h2.same s⟩⟩
theorem st_empty : (Str.ofString "" : Str) = S [] := TL.ext_tl (by rw [TL.tl_ofString]; rfl)
section
variable {P : Program} {w : World} {K : PySem.W.Frag} {mg : Str → Option Value} {base : Heap}
def spReadPage (CT CY CS : Addr) : Sp := fun vs H Q E => ∃ z : List Nat, vs = [.str (S z)] ∧ z.length ≤ 3000 ∧ (linesOf z).length ≤ 60 ∧ (∀ u ∈ linesOf z, u.length ≤ 150) ∧ (∀ k, pgF z = some k → Refd CT "at" "bad text" (.int (k : Nat)) H E) ∧
  (pgF z = none → ∀ H' y kvs, Same H H' → H y = none → YdK CY CS H' y kvs → Stk H' kvs (linesOf z).dropLast → Q (.ref y) H')
theorem ok_readPage {f CT CY CS : Addr} {fd : FuncData} (F : Fun K "read_page" "read_page" sReadPage f fd) (B : Bl mg) (T : BadTxt P w K mg base "BadText" CT "at" "bad text") (ml : ∃ t, mg "MOST_LOTS" = some (.int 8 t))
    (CN : Cal P w K mg base CX0 1 "is_name" ["name"] spIsNm) (CL : Cal P w K mg base (L2.CX P w) 6 "lot_in_line" ["written", "at"] (spLotInLine CT)) (CYo : Cal P w K mg base CX0 5 "yard_of" ["stock"] (spYardOf CY CS)) :
    FnOk P w K mg base (L2.CX P w) 8 f fd ["text"] (spReadPage CT CY CS) := by
  obtain ⟨tl, ml⟩ := ml
  obtain ⟨fN, fdN, GN, gN, kN, bN⟩ := CN.ex
  obtain ⟨fL, fdL, GL, gL, kL, bL⟩ := CL.ex
  obtain ⟨fY, fdY, GY, gY, kY, bY⟩ := CYo.ex
  obtain ⟨fI, fdI, iC, tI, GI, bI⟩ := T.ini
  refine F.okX scRP (fun vs H Q E h => ?_) (fun cdv A outer s H vs Q E hr h => ?_)
  · obtain ⟨z, rfl, _⟩ := h
    rfl
  · obtain ⟨z, rfl, hz, hl, hu, q0, q1⟩ := h
    have hun : (A.deeper (envOfC "read_page" (defScope sReadPage) s.heap.objs.size f cdv)).units + 1 < cLine := by
      have := hr.un
      omega
    refine ⟨_, (pss_cons (ps_set (i := 1) scRP.nd rfl (.inl rfl) (pe_split (pv 0) pe_str))
      (pss_cons (ps_set (i := 2) scRP.nd rfl (.inl rfl) pe_dnewK)
      (pss_cons (ps_set (i := 3) scRP.nd rfl (.inl rfl) pe_str)
      (pss_cons (ps_for (passes_of rfl) rfl (pi_enum (by rfl) B.enumerate (pa_cons (pe_slice sl_list (pv 1) po_none (po_some (pe_un un_neg pe_int))) pa_nil)) (pg_tup rfl (pgs_cons (pg_name (i := 4) scRP.nd rfl (.inl rfl)) (pgs_cons (pg_name (i := 5) scRP.nd rfl (.inl rfl)) pgs_nil)))
      (pss_cons (ps_asg (pe_partition (pv 5) pe_str) (pg_tup rfl (pgs_cons (pg_name (i := 6) scRP.nd rfl (.inl rfl)) (pgs_cons (pg_name (i := 7) scRP.nd rfl (.inl rfl)) (pgs_cons (pg_name (i := 8) scRP.nd rfl (.inl rfl)) pgs_nil)))))
      (pss_cons (ps_if (PW.pt (pw_or (pt_not (pt_val (pe_call GN (hr.mono (by decide)) (by rfl) gN kN bN .nil pass0 (pa_cons (pv 6) pa_nil)))) (pw_or (pt_cmpR op_le_str (pv 6) (pv 3) (nomark _)) (pw_or1 (pt_cmpR op_ge (pv 4) (pe_glob (v := .int 8) (by rfl) ml ⟨_, rfl⟩) (nomark _)))))) (pss_one (ps_raise rfl (takes_of rfl rfl rfl rfl) (pmk_oex T.c2.ox iC tI GI (hr.mono (by decide)) bI .nil pass0 (by rfl) T.gC (pa_cons (pv 4) pa_nil)))) pss_nil)
      (pss_cons (ps_asg (pe_call GL (hr.mono (by decide)) (by rfl) gL kL bL .nil (passes_call (takes_of rfl rfl rfl rfl) (fun _ _ _ _ h => h)) (pa_cons (pv 8) (pa_cons (pv 4) pa_nil))) (pg_sub (pv 2) (pv 6) (set_dict hun)))
      (pss_one (ps_set (i := 3) scRP.nd rfl (.inl rfl) (pv 6)))))))
      (pss_cons (ps_if (pt_cmpR op_ne (pe_ix ix_list (pv 1) (pe_un un_neg pe_int) (fun _ _ => rfl)) pe_str (nomark _)) (pss_one (ps_raise rfl (takes_of rfl rfl rfl rfl) (pmk_oex T.c2.ox iC tI GI (hr.mono (by decide)) bI .nil pass0 (by rfl) T.gC (pa_cons (pe_op op_sub (pe_callB call_len_seq (by rfl) B.len PySem.boot_len (pa_cons (pv 1) pa_nil)) pe_int) pa_nil)))) pss_nil)
      (pss_one (ps_ret (pe_call GY (hr.mono (by decide)) (by rfl) gY kY bY .nil pass0 (pa_cons (pv 2) pa_nil))))))))), ?_⟩
    refine ⟨.str (S z), rfl, ⟨_, rfl⟩, S z, _, rfl, rfl, by decide +kernel, by rw [S_len, sizeLine_eq]; omega, fun la nla => ?_⟩
    rw [sp_line]
    generalize hus : linesOf z = us at *
    have sl := same_new (o := .lst ((us.map S).map V.str)) nla
    have gl : upd H la (.lst ((us.map S).map V.str)) la = some (.lst ((us.map S).map V.str)) := upd_same
    generalize upd H la (.lst ((us.map S).map V.str)) = H1 at sl gl ⊢
    refine fun sd nsd => ⟨.ref la, rfl, ?_⟩
    have ss := same_new (o := .dK []) nsd
    have gd : upd H1 sd (.dK []) sd = some (.dK []) := upd_same
    have gl2 := ss _ _ gl
    generalize upd H1 sd (.dK []) = H2 at ss gd gl2 ⊢
    refine ⟨1, rfl, -1, rfl, la, (us.map S).map V.str, rfl, SqL.of gl2, fun sp nsp => ?_⟩
    have ecut : cutV ((us.map S).map V.str) none (some (-1)) = (us.dropLast.map S).map V.str := by
      unfold cutV
      have e : HT.sIx ((us.map S).map V.str).length ((us.map S).map V.str).length (some (-1)) = ((us.map S).map V.str).length - 1 := by
        show (if (-1 : Int) < 0 then ((-1 : Int) + (((us.map S).map V.str).length : Int)).toNat else min (-1 : Int).toNat ((us.map S).map V.str).length) = _
        rw [if_pos (by decide)]
        omega
      rw [HT.sIx_none, e, List.drop_zero, Nat.sub_zero, ← List.dropLast_eq_take, List.map_dropLast, List.map_dropLast]
    rw [ecut]
    have s3 := same_new (o := .lst ((us.dropLast.map S).map V.str)) nsp
    have gp : upd H2 sp (.lst ((us.dropLast.map S).map V.str)) sp = some (.lst ((us.dropLast.map S).map V.str)) := upd_same
    have gd3 := s3 _ _ gd
    have gl3 := s3 _ _ gl2
    generalize upd H2 sp (.lst ((us.dropLast.map S).map V.str)) = H3 at s3 gp gd3 gl3 ⊢
    have nsdH : H sd = none := sl.free nsd
    refine ⟨sp, _, rfl, SqL.of gp, ?_⟩
    generalize hws : us.dropLast = ws at *
    refine for_it (walk_enum (xs := (ws.map S).map V.str)) (fun i σ H4 => pgG 0 [] (ws.take i) = none ∧ (∃ x4 x5 x6 x7 x8, σ = [some (.str (S z)), some (.ref la), some (.ref sd), some (.str (S (ahd [] (ws.take i)))), x4, x5, x6, x7, x8]) ∧ H4 la = some (.lst ((us.map S).map V.str)) ∧ H4 sp = some (.lst ((ws.map S).map V.str)) ∧ Same H H4 ∧
      ∃ kvs, H4 sd = some (.dK kvs) ∧ Stk H4 kvs (ws.take i)) ?_ ?_ ?_ ?_
    · have e0 : (Str.ofString "" : Str) = S [] := TL.ext_tl (by rw [TL.tl_ofString]; rfl)
      refine ⟨rfl, ⟨none, none, none, none, none, ?_⟩, gl3, gp, ((sl.trans ss).trans s3), [], gd3, rfl, fun i u e => by simp at e⟩
      rw [e0]
      rfl
    · rintro i σ H4 _ ⟨_, _, _, h, _⟩
      exact SqL.of h
    · rintro i x σ H4 H5 hi ⟨g0, ⟨x4, x5, x6, x7, x8, rfl⟩, g1, g2, g3, kvs, g4, g5⟩ hY
      obtain ⟨T0, x1, x2, rfl, nT, rfl, e1, e2⟩ := hY
      cases Option.some.inj e1
      obtain ⟨u, hwu, rfl⟩ : ∃ u, ws[i]? = some u ∧ x2 = V.str (S u) := by
        have e2' : ((ws.map S).map V.str)[i]? = some x2 := e2
        rw [List.getElem?_map, List.getElem?_map] at e2'
        cases e : ws[i]? with
        | none => rw [e] at e2'; cases e2'
        | some c => rw [e] at e2'; exact ⟨c, rfl, (Option.some.inj e2').symm⟩
      have sT := same_new (o := .tup [.int (i : Nat), .str (S u)]) nT
      have hul : u.length ≤ 150 := hu u (by
        have m := List.mem_of_getElem? hwu
        rw [← hws] at m
        exact (List.dropLast_sublist _).subset m)
      refine ⟨T0, _, rfl, SqT.of upd_same, rfl, _, _, rfl, _, _, rfl, rfl, ?_⟩
      refine ⟨.str (S u), rfl, ⟨_, rfl⟩, S u, _, rfl, rfl, by decide +kernel, by rw [S_len, sizeLine_eq]; omega, fun T1 nT1 => ?_⟩
      obtain ⟨p1, p2⟩ := part_line u
      rw [st_blank, p1, p2]
      generalize (Txt.partition (S u) (S [32])).2.1 = mid at *
      have s1 := sT.trans (same_new (o := .tup [.str (S (nmOf u)), .str mid, .str (S (wrOf u))]) nT1)
      refine ⟨T1, _, rfl, SqT.of upd_same, rfl, _, _, rfl, _, _, rfl, _, _, rfl, rfl, ?_⟩
      have hi8 : i < ws.length := (List.getElem?_eq_some_iff.mp hwu).1
      have bad : lnOk i (ahd [] (ws.take i)) u = false → ∀ H6, Same H H6 → Refd CT "at" "bad text" (.int ((i : Nat) : Int)) H6 E := fun e H6 s6 => (q0 i (by
        have q := (pgG_step g0 hwu).2 e
        unfold pgF
        rw [hus, hws, q])).same s6
      have nl := nm_len u
      have wl := wrO_len u
      refine ⟨.str (S (nmOf u)), rfl, nmOf u, rfl, by omega, fun H6 s6 => ⟨_, rfl, ?_⟩⟩
      have s06 := g3.trans (s1.trans s6)
      refine ite2 (fun c1 => iteT ⟨.int (i : Nat), rfl, mk_refd (bad ?_ _ s06)⟩) (fun c1 => ⟨.str (S (nmOf u)), rfl, .str (S (ahd [] (ws.take i))), rfl, _, _, rfl, rfl, _, rfl, ?_⟩)
      · unfold lnOk
        cases e : isNm (nmOf u) with
        | false => rfl
        | true => rw [e] at c1; cases c1
      have c1' : isNm (nmOf u) = true := by
        cases e : isNm (nmOf u) with
        | true => rfl
        | false => rw [e] at c1; exact absurd rfl c1
      refine ite2 (fun c2 => iteT ⟨.int (i : Nat), rfl, mk_refd (bad ?_ _ s06)⟩) (fun c2 => ⟨.int (i : Nat), rfl, _, 8, rfl, rfl, _, rfl, ?_⟩)
      · unfold lnOk
        have c2' : ¬ ahd [] (ws.take i) < nmOf u := fun y => by
          rw [show (!decide ((S (ahd [] (ws.take i))).cps.toList < (S (nmOf u)).cps.toList)) = !decide (ahd [] (ws.take i) < nmOf u) from rfl, decide_eq_true y] at c2
          cases c2
        rw [decide_eq_false c2', Bool.false_and, Bool.and_false]
      have c2' : ahd [] (ws.take i) < nmOf u := Decidable.byContradiction fun y => c2 (by
        rw [show (!decide ((S (ahd [] (ws.take i))).cps.toList < (S (nmOf u)).cps.toList)) = !decide (ahd [] (ws.take i) < nmOf u) from rfl, decide_eq_false y]
        rfl)
      refine ite2 (fun c3 => ⟨.int (i : Nat), rfl, mk_refd (bad ?_ _ s06)⟩) (fun c3 => ?_)
      · unfold lnOk
        have c3' : ¬ i < 8 := by have := of_decide_eq_true c3; omega
        rw [decide_eq_false c3', Bool.false_and, Bool.and_false, Bool.and_false]
      have c3' : i < 8 := Decidable.byContradiction fun y => c3 (decide_eq_true (by omega))
      have eok : lnOk i (ahd [] (ws.take i)) u = (okT (wrOf u) && (flaw (rowsT (wrOf u))).isNone) := by
        unfold lnOk
        rw [c1', decide_eq_true c2', decide_eq_true c3', Bool.true_and, Bool.true_and, Bool.true_and]
      refine ⟨.str (S (wrOf u)), rfl, .int (i : Nat), rfl, wrOf u, (i : Nat), rfl, by omega, fun hb => bad ?_ _ s06, fun hok hfl H7 pl s7 hLt => ?_⟩
      · rw [eok]
        rcases hb with hb | hb
        · rw [hb, Bool.false_and]
        · cases e : flaw (rowsT (wrOf u)) with
          | none => exact absurd e hb
          | some k => rw [show (some k).isNone = false from rfl, Bool.and_false]
      have eok' : lnOk i (ahd [] (ws.take i)) u = true := by rw [eok, hok, hfl]; rfl
      have s47 := s1.trans (s6.trans s7)
      have gd7 := s47 _ _ g4
      have itk : (ws.take i).length = i := by rw [List.length_take]; omega
      have kl : kvs.length = i := by rw [g5.1, itk]
      have tk1 : ws.take (i + 1) = ws.take i ++ [u] := by
        rw [List.take_add_one, hwu]
        rfl
      have apart : ∀ p ∈ kvs, p.1 ≠ Sum.inr (S (nmOf u)) := fun q hq c => by
        obtain ⟨j, hj, ej⟩ := List.mem_iff_getElem.mp hq
        have hj' : j < (ws.take i).length := by rw [itk, ← kl]; exact hj
        obtain ⟨pp, h1, _⟩ := g5.2 j _ (List.getElem?_eq_getElem hj')
        rw [List.getElem?_eq_getElem hj, ej] at h1
        have e1 : q.1 = Sum.inr (S (nmOf (ws.take i)[j])) := by rw [Option.some.inj h1]
        rw [e1] at c
        have e2 : nmOf (ws.take i)[j] = nmOf u := SX.S_inj (Sum.inr.inj c)
        obtain ⟨_, t2⟩ := ahd_top g0
        obtain ⟨_, t3⟩ := t2 _ (List.getElem_mem hj')
        rw [e2] at t3
        rcases t3 with t3 | t3
        · rw [← t3] at c2'
          exact List.lt_irrefl _ c2'
        · exact List.lt_irrefl _ (lt_tr t3 c2')
      refine ⟨.ref sd, rfl, .str (S (nmOf u)), rfl, sd, _, rfl, DPut.k (k := .inr (S (nmOf u))) gd7 (lt_line (by omega)), .str (S (nmOf u)), rfl, (pgG_step g0 hwu).1 eok', ⟨some (.int (i : Nat)), some (.str (S u)), some (.str (S (nmOf u))), some (.str mid), some (.str (S (wrOf u))), ?_⟩, ?_, ?_, same_late (g3.trans s47) nsdH, putK kvs (.inr (S (nmOf u))) (.ref pl), upd_same, ?_⟩
      · rw [tk1, ahd_app]
        rfl
      · rw [upd_ne (fun c => by rw [c, g4] at g1; cases g1)]
        exact s47 _ _ g1
      · rw [upd_ne (fun c => by rw [c, g4] at g2; cases g2)]
        exact s47 _ _ g2
      · rw [putK_last apart, tk1]
        refine ⟨by rw [List.length_append, List.length_append, g5.1]; rfl, fun j v ej => ?_⟩
        have lot_up : ∀ {a : Addr} {ll : List (List Int)}, LotAt H7 a ll → LotAt (upd H7 sd (.dK (kvs ++ [(Sum.inr (S (nmOf u)), V.ref pl)]))) a ll := fun {a ll} hl => by
          obtain ⟨as, h1, h2⟩ := hl
          refine ⟨as, by rw [upd_ne (fun c => by rw [c, gd7] at h1; cases h1)]; exact h1, h2.mono fun b vs e => ?_⟩
          rw [upd_ne (fun c => by rw [c, gd7] at e; cases e)]
          exact e
        by_cases c : j < (ws.take i).length
        · rw [List.getElem?_append_left c] at ej
          obtain ⟨pp, h1, h2⟩ := g5.2 j v ej
          refine ⟨pp, ?_, lot_up (h2.same s47)⟩
          rw [List.getElem?_append_left (by rw [g5.1]; exact c)]
          exact h1
        · have hl := (List.getElem?_eq_some_iff.mp ej).1
          rw [List.length_append, List.length_singleton] at hl
          have e3 : j = (ws.take i).length := by omega
          rw [e3, List.getElem?_append_right (Nat.le_refl _), Nat.sub_self] at ej
          have ev : u = v := by simpa using ej
          subst ev
          refine ⟨pl, ?_, lot_up hLt⟩
          rw [e3, List.getElem?_append_right (by omega), g5.1, Nat.sub_self]
          rfl
    · rintro σ H4 ⟨g0, ⟨x4, x5, x6, x7, x8, rfl⟩, g1, g2, g3, kvs, g4, g5⟩
      have ewl : ((ws.map S).map V.str).length = ws.length := by rw [List.length_map, List.length_map]
      rw [ewl, List.take_length] at g0 g5
      have une : us ≠ [] := by rw [← hus]; exact spl_ne10 z []
      have ulen : us.length = ws.length + 1 := by
        rw [← hws, List.length_dropLast]
        have := List.length_pos_iff.mpr une
        omega
      have hla : us[us.length - 1]? = some (us.getLast une) := by
        rw [List.getElem?_eq_getElem (by omega), List.getLast_eq_getElem]
      have atl : atI ((us.map S).map V.str) (-1) = some (.str (S (us.getLast une))) := by
        have e := (List.dropLast_concat_getLast une).symm
        rw [hws] at e
        have e2 : (us.map S).map V.str = (ws.map S).map V.str ++ [V.str (S (us.getLast une))] := by
          rw [congrArg (fun l : List (List Nat) => (l.map S).map V.str) e, List.map_append, List.map_append]
          rfl
        rw [e2]
        exact atI_last _ _
      refine ⟨.ref la, rfl, 1, rfl, la, _, _, _, rfl, rfl, SqL.of g1, atl, rfl, _, rfl, ?_⟩
      refine ite2 (fun c => ?_) (fun c => ?_)
      · have c' : us.getLast une ≠ [] := fun y => by
          rw [y, st_empty, decide_eq_true rfl] at c
          cases c
        have ep : pgF z = some (us.length - 1) := by
          unfold pgF
          rw [hus, hws, g0, List.getLast?_eq_some_getLast une]
          exact if_neg (fun y => c' (Option.some.inj y))
        refine ⟨.ref la, rfl, la, _, rfl, .inl (SqL.of g1), _, 1, rfl, rfl, ?_⟩
        have el : ((((us.map S).map V.str).length : Nat) : Int) - 1 = ((us.length - 1 : Nat) : Int) := by
          rw [List.length_map, List.length_map]
          omega
        have r := mk_refd ((q0 _ ep).same g3)
        rw [← el] at r
        exact r
      · have c' : us.getLast une = [] := Decidable.byContradiction fun y => c (by
          rw [st_empty, decide_eq_false (fun e => y (SX.S_inj (V.str.inj e)))]
          rfl)
        have ep : pgF z = none := by
          unfold pgF
          rw [hus, hws, g0, List.getLast?_eq_some_getLast une, c']
          exact if_pos rfl
        have kl : kvs.length ≤ 8 := by rw [g5.1]; exact pgG_few g0
        refine ⟨.ref sd, rfl, sd, kvs, (ws.map nmOf).map S, rfl, g4, kl, ?_, ?_, fun H6 y s6 ny hy => q1 ep H6 y kvs (g3.trans s6) (g3.free ny) hy (g5.same s6)⟩
        · refine List.ext_getElem? fun j => ?_
          rw [List.getElem?_map, List.getElem?_map, List.getElem?_map, List.getElem?_map]
          cases e : ws[j]? with
          | none =>
            rw [List.getElem?_eq_none (by rw [g5.1]; exact List.getElem?_eq_none_iff.mp e)]
            rfl
          | some u =>
            obtain ⟨pp, h1, _⟩ := g5.2 j u e
            rw [h1]
            rfl
        · have nd : (ws.map nmOf).Nodup := (pgG_rise g0).imp (fun {a b} h e => by
            rw [e] at h
            exact List.lt_irrefl _ h)
          exact List.Pairwise.map S (fun a b (h : a ≠ b) e => h (SX.S_inj e)) nd
end
end HL

set_option pp.maxSteps 1500
set_option pp.deepTerms false
namespace HL
open PySem PySem.Spec PyProof.Rows L2
open C8 (pss_cut)
open SX (S S_len S_cat split_S join_S)
section
variable {P : Program} {w : World} {K : PySem.W.Frag} {mg : Str → Option Value} {base : Heap}
theorem okRow_all {ll : List (List Int)} (h : flaw ll = none) : ∀ r ∈ ll, okRow (width ll) r = true := fun r hr => by
  have h0 := flaw_ok h
  unfold flaw at h
  rw [if_pos ⟨h0.1, h0.2.1, h0.2.2.1, h0.2.2.2⟩] at h
  unfold flawIn at h
  have e : ll.findIdx? (fun r => !okRow (width ll) r) = none := by
    cases z : ll.findIdx? (fun r => !okRow (width ll) r) with
    | none => rfl
    | some i => rw [z] at h; cases h
  have := List.findIdx?_eq_none_iff.mp e r hr
  cases z : okRow (width ll) r with
  | true => rfl
  | false => rw [z] at this; cases this
/-! ### a lot that is one -/
def spLook0 : Sp := fun vs H Q _ => ∃ (p : Addr) (as : List Addr) (ll : List (List Int)), vs = [.ref p] ∧ RowsAt H p as ll ∧ flaw ll = none ∧ ∀ H', Same H H' → Q .non H'
theorem ok_look0 {f : Addr} {fd : FuncData} (F : Fun K "look_lot" "look_lot" sLook f fd) (B : Bl mg) (M : Consts mg) (CH : Cal P w K mg base CX0 1 "is_hold" ["hold", "goods"] spIsHold) : FnOk P w K mg base CX0 2 f fd ["lot"] spLook0 := by
  obtain ⟨t5, m5⟩ := M.kinds
  obtain ⟨t3, m3⟩ := M.goods
  obtain ⟨fH, fdH, GH, gH, kH, bH⟩ := CH.ex
  refine F.ok scLk (fun vs H Q E h => ?_) (fun cdv A outer s H vs Q E hr h => ?_)
  · obtain ⟨p, as, ll, rfl, _⟩ := h
    rfl
  · obtain ⟨p, as, ll, rfl, hL, ef, q0⟩ := h
    have hok := flaw_ok ef
    have hrows := flaw_rows ef
    have hlen := hL.2.len
    refine ⟨_, pss_cons (ps_if (PW.pt (pw_or (pt_not (pt_chain op_le op_le pe_int (pe_callB call_len_seq (by rfl) B.len PySem.boot_len (pa_cons (pv 0) pa_nil)) (pe_glob (v := .int 5) rfl m5 ⟨_, rfl⟩)))
          (pw_or1 (pt_not (pt_chain op_le op_le pe_int (pe_callB call_len_seq (by rfl) B.len PySem.boot_len (pa_cons (pe_ix ix_tup (pv 0) pe_int (fun _ _ => rfl)) pa_nil)) (pe_glob (v := .int 3) rfl m3 ⟨_, rfl⟩)))))) pss_never pss_nil)
      (pss_one (ps_for PassesOwn.never rfl (pi_enumT (by rfl) B.enumerate (pa_cons (pv 0) pa_nil)) (pg_tup rfl (pgs_cons (pg_name (i := 1) scLk.nd rfl (.inl rfl)) (pgs_cons (pg_name (i := 2) scLk.nd rfl (.inl rfl)) pgs_nil)))
        (pss_one (ps_if (pt_not (pt_val (pe_call GH hr (by rfl) gH kH bH .nil pass0 (pa_cons (pv 2) (pa_cons (pe_callB call_len_seq (by rfl) B.len PySem.boot_len (pa_cons (pe_ix ix_tup (pv 0) pe_int (fun _ _ => rfl)) pa_nil)) pa_nil))))) pss_never pss_nil)))), ?_⟩
    have sP : SqT K H p (as.map V.ref) := SqT.of hL.1
    obtain ⟨a0, ha0, hh0, hw⟩ := hL.2.head hok.1
    have at0 : atI (as.map V.ref) 0 = some (.ref a0) := atI_nat (j := 0) (by rw [List.getElem?_map, ha0]; rfl)
    refine ⟨.ref p, rfl, p, _, rfl, .inr sP, 1, _, rfl, rfl, _, rfl, chainI ?_⟩
    rw [List.length_map, hlen, decide_eq_true (show (1 : Int) ≤ (ll.length : Nat) ∧ ((ll.length : Nat) : Int) ≤ 5 by omega)]
    refine iteF ?_
    refine ⟨.ref p, rfl, p, _, 0, .ref a0, rfl, rfl, sP, at0, a0, _, rfl, .inr (SqT.of hh0), 1, _, rfl, rfl, _, rfl, chainI ?_⟩
    rw [List.length_map, hw, decide_eq_true (show (1 : Int) ≤ (width ll : Nat) ∧ ((width ll : Nat) : Int) ≤ 3 by omega)]
    refine iteF ?_
    refine ⟨.ref p, rfl, p, _, rfl, sP, ?_⟩
    refine ⟨fun i m σ H' => i + m = as.length ∧ Same H H' ∧ (∃ y1 y2, σ = [some (.ref p), y1, y2]), ⟨as.length, by omega, Same.refl _, ⟨none, none, rfl⟩⟩, fun i m σ H' hW => ?_⟩
    obtain ⟨em, sm, ⟨y1, y2, rfl⟩⟩ := hW
    have sP' : SqT K H' p (as.map V.ref) := SqT.of (sm _ _ hL.1)
    by_cases hi : i < as.length
    · have hai : as[i]? = some as[i] := List.getElem?_eq_getElem hi
      obtain ⟨r, hr1, hr2⟩ := hL.2.at hai
      have g1 : (as.map V.ref)[i]? = some (.ref as[i]) := by rw [List.getElem?_map, hai]; rfl
      refine .inr ⟨⟨_, _, sP', g1⟩, fun σ' H2 => Same H H2 ∧ (∃ y1 y2, σ' = [some (.ref p), y1, y2]), fun σ' H2 hN => ⟨m - 1, by omega, by omega, hN⟩, fun x H2 hy => ?_⟩
      obtain ⟨T2, x2, rfl, nT, rfl, f2⟩ := hy
      have ex2 : x2 = .ref as[i] := Option.some.inj ((f2 _ sP').symm.trans g1)
      subst ex2
      have s3 : Same H (upd H' T2 (.tup [.int (i : Nat), .ref as[i]])) := sm.trans (same_new nT)
      refine ⟨T2, _, rfl, SqT.of upd_same, rfl, _, _, rfl, _, _, rfl, rfl, ?_⟩
      refine ⟨.ref as[i], rfl, .ref p, rfl, p, _, 0, .ref a0, rfl, rfl, SqT.of (s3 _ _ hL.1), at0, a0, _, rfl, .inr (SqT.of (s3 _ _ hh0)), as[i], width ll, r, ?_, s3 _ _ hr2, by have := (hrows r (List.mem_of_getElem? hr1)).1; omega, hok.2.2.1, fun H4 s4 => ⟨_, rfl, ?_⟩⟩
      · rw [List.length_map, hw]
        rfl
      · rw [okRow_all ef r (List.mem_of_getElem? hr1)]
        exact iteF ⟨s3.trans s4, ⟨_, _, rfl⟩⟩
    · exact .inl ⟨⟨_, sP', by rw [List.length_map]; omega⟩, q0 H' sm⟩

theorem scLT0 : FnScope ["lot", "hold"] ["lot"] (defScope sLotText) := ⟨rfl, rfl, rfl, by decide +kernel, rfl, by decide +kernel, by decide +kernel⟩
/-- a lot that is one, as text -/
def spLotText0 : Sp := fun vs H Q _ => ∃ (p : Addr) (ll : List (List Int)), vs = [.ref p] ∧ LotAt H p ll ∧ flaw ll = none ∧ ∀ H', Same H H' → Q (.str (S (lotL ll))) H'
theorem ok_lotText0 {f : Addr} {fd : FuncData} (F : Fun K "lot_text" "lot_text" sLotText f fd) (CL : Cal P w K mg base CX0 2 "look_lot" ["lot"] spLook0) (CR : Cal P w K mg base CX0 1 "row_text" ["row"] (spRowText K)) : FnOk P w K mg base CX0 3 f fd ["lot"] spLotText0 := by
  obtain ⟨fR, fdR, GR, gR, kR, bR⟩ := CR.ex
  obtain ⟨fL, fdL, GL, gL, kL, bL⟩ := CL.ex
  refine F.ok scLT0 (fun vs H Q E h => ?_) (fun cdv A outer s H vs Q E hr h => ?_)
  · obtain ⟨p, ll, rfl, _⟩ := h
    rfl
  · obtain ⟨p, ll, rfl, ⟨as, hp0, hR0⟩, ef, q1⟩ := h
    refine ⟨_, pss_cons (ps_expr (pe_call GL (hr.mono (by decide)) (by rfl) gL kL bL .nil pass0 (pa_cons (pv 0) pa_nil)))
      (pss_one (ps_ret (pe_join pe_str (pe_lc (own := [("hold", 1)]) (g := gName 1) (tt := tYes) rfl scLT0.nd (pi_tup (pv 0))
        (blkOk_by (own := [("hold", 1)]) (N := ["lot", "hold"]) (sc := defScope sLotText) (by decide +kernel)) (fun _ _ _ _ _ => pg_name (i := 1) scLT0.nd rfl (Or.inl rfl)) (fun _ _ _ _ _ => pts_nil)
        (fun _ _ _ _ _ => (pe_call GR (hr.mono (by decide)) (by rfl) gR kR bR .nil pass0 (pa_cons (pv 1) pa_nil))))))), ?_⟩
    refine ⟨.ref p, rfl, p, as, ll, rfl, ⟨hp0, hR0⟩, ef, fun H0 s0 => ?_⟩
    have hok := flaw_ok ef
    have hrw := flaw_rowsT ef
    have hs' : ∀ r ∈ ll, r.length ≤ 100 ∧ SmallN r := fun r hr => ⟨by rw [(flaw_rows ef r hr).1]; omega, small_rows hrw r hr⟩
    have hp := s0 _ _ hp0
    have hR := hR0.same s0
    have hlen := hR.len
    refine ⟨⟨_, rfl⟩, .ref p, rfl, p, rfl, ⟨_, SqT.of hp⟩, fun D nD => ?_⟩
    refine lc_tup (K := K) (a := p) (xs := as.map V.ref) (fun i H' => Same H0 H' ∧ H' D = some (.lst ((((ll.map rowL).map S).take i).map V.str))) ⟨same_new nD, upd_same⟩ (fun i H' _ ⟨sm, _⟩ => SqT.of (sm _ _ hp)) (fun i x H' hx ⟨sm, hD⟩ => ?_) (fun H' ⟨sm, hD⟩ => ?_)
    · obtain ⟨a, ha, rfl⟩ : ∃ n, as[i]? = some n ∧ x = V.ref n := by
        rw [List.getElem?_map] at hx
        cases e : as[i]? with
        | none => rw [e] at hx; cases hx
        | some n => rw [e] at hx; exact ⟨n, rfl, (Option.some.inj hx).symm⟩
      obtain ⟨r, r1, r2⟩ := hR.at ha
      have hrs := hs' r (List.mem_of_getElem? r1)
      refine ⟨rfl, yes (iteT ?_)⟩
      refine ⟨.ref a, rfl, a, r, rfl, SqT.of (sm _ _ r2), hrs.1, hrs.2, fun H2 s2 => ⟨_, s2 _ _ hD, ?_, same_late (sm.trans s2) nD, ?_⟩⟩
      · rw [List.length_map]
        exact small1000 (Nat.le_trans (List.length_take_le' _ _) (by rw [List.length_map, List.length_map]; omega))
      · have e : ((ll.map rowL).map S)[i]? = some (S (rowL r)) := by rw [List.getElem?_map, List.getElem?_map, r1]; rfl
        rw [upd_same, List.take_add_one, e, List.map_append]
        rfl
    · rw [List.length_map, List.take_of_length_le (by rw [List.length_map, List.length_map]; omega)] at hD
      refine ⟨_, D, _, rfl, rfl, .inl (SqL.of hD), ?_, ?_⟩
      · exact sum_lensB (by omega) hs'
      · rw [join_lot]
        exact q1 H' (s0.trans sm)
/-! ### a yard's names, its page, how many lots it holds -/
theorem scYN : FnScope ["self"] ["self"] (defScope (sY 13)) := ⟨rfl, rfl, rfl, by decide +kernel, rfl, by decide +kernel, by decide +kernel⟩
theorem scYLn : FnScope ["self"] ["self"] (defScope (sY 23)) := ⟨rfl, rfl, rfl, by decide +kernel, rfl, by decide +kernel, by decide +kernel⟩
theorem scYS : FnScope ["self", "name"] ["self"] (defScope (sY 25)) := ⟨rfl, rfl, rfl, by decide +kernel, rfl, by decide +kernel, by decide +kernel⟩
theorem scPg : FnScope ["yard"] ["yard"] (defScope sPage) := ⟨rfl, rfl, rfl, by decide +kernel, rfl, by decide +kernel, by decide +kernel⟩
theorem txts_of (ys : List Str) : (ys.map (fun s => s.cps.toList)).map S = ys := by
  rw [List.map_map]
  exact (List.map_congr_left fun s _ => SX.S_tl s).trans (List.map_id _)
def spYNames (CY CS : Addr) : Sp := fun vs H Q _ => ∃ (y : Addr) (kvs : List (Key × V)) (ns : List (List Nat)), vs = [.ref y] ∧ YdK CY CS H y kvs ∧ kvs.map (·.1) = (ns.map S).map Sum.inr ∧ ns.length ≤ 8 ∧ ns.Pairwise (· < ·) ∧ ∀ H' p, Same H H' → H' p = some (.lst ((ns.map S).map V.str)) → Q (.ref p) H'
theorem ok_yNames {f CY CS : Addr} {fd : FuncData} {k : Nat} (F : Fun K "names" "Yard.names" (sY 13) f fd) (T : YdTxt K mg CY) (TS : ShTxt K mg CS) (ms : mg "sorted" = none) : FnOk P w K mg base CX0 (k + 1) f fd ["self"] (spYNames CY CS) := by
  refine F.ok scYN (fun vs H Q E h => ?_) (fun cdv A outer s H vs Q E hr h => ?_)
  · obtain ⟨y, kvs, ns, rfl, _⟩ := h
    rfl
  · obtain ⟨y, kvs, ns, rfl, ⟨dy, sh, dx, st, so, fs, evs, l, h1, h2, h3, h4, h5, h6⟩, hk, h8, hrise, q⟩ := h
    refine ⟨_, pss_one (ps_ret (pe_callB (call_sortedD rfl) (by rfl) ms (by decide +kernel) (pa_cons (pe_fld (pe_fld (pv 0) rfl) rfl) pa_nil))), ?_⟩
    refine ⟨.ref y, rfl, y, CY, dy, _, .ref sh, rfl, h1, T.cl, T.nS, List.lookup_cons_self, sh, CS, dx, _, .ref st, rfl, h3, TS.cl, TS.nS, sh_stock, st, kvs, ns.map S, rfl, .inl h4, hk, by rw [List.length_map]; omega, fun ys p pm srt np => ?_⟩
    refine q _ p (same_new np) ?_
    rw [← txts_of ys] at pm srt
    rw [upd_same, ← srt_same pm srt hrise, txts_of]
def spYLen (CY CS : Addr) : Sp := fun vs H Q _ => ∃ (y : Addr) (kvs : List (Key × V)), vs = [.ref y] ∧ YdK CY CS H y kvs ∧ Q (.int kvs.length) H
theorem ok_yLen {f CY CS : Addr} {fd : FuncData} {k : Nat} (F : Fun K "__len__" "Yard.__len__" (sY 23) f fd) (B : Bl mg) (T : YdTxt K mg CY) (TS : ShTxt K mg CS) : FnOk P w K mg base CX0 (k + 1) f fd ["self"] (spYLen CY CS) := by
  refine F.ok scYLn (fun vs H Q E h => ?_) (fun cdv A outer s H vs Q E hr h => ?_)
  · obtain ⟨y, kvs, rfl, _⟩ := h
    rfl
  · obtain ⟨y, kvs, rfl, ⟨dy, sh, dx, st, so, fs, evs, l, h1, h2, h3, h4, h5, h6⟩, q⟩ := h
    refine ⟨_, pss_one (ps_ret (pe_callB call_lenD (by rfl) B.len PySem.boot_len (pa_cons (pe_fld (pe_fld (pv 0) rfl) rfl) pa_nil))), ?_⟩
    exact ⟨.ref y, rfl, y, CY, dy, _, .ref sh, rfl, h1, T.cl, T.nS, List.lookup_cons_self, sh, CS, dx, _, .ref st, rfl, h3, TS.cl, TS.nS, sh_stock, st, kvs, rfl, h4, q⟩
/-- the lots of a table, under their names -/
def LsAt (H : Hp) (kvs : List (Key × V)) (ps : List (List Nat × List (List Int))) : Prop := kvs.length = ps.length ∧ ∀ (i : Nat) (n : List Nat) (ll : List (List Int)), ps[i]? = some (n, ll) → ∃ a, kvs[i]? = some (.inr (S n), .ref a) ∧ LotAt H a ll
def lnT (p : List Nat × List (List Int)) : List Nat := p.1 ++ [32] ++ lotL p.2 ++ [10]
def pgT (ps : List (List Nat × List (List Int))) : List Nat := (ps.map lnT).flatten
theorem LsAt.same {H H' : Hp} {kvs : List (Key × V)} {ps : List (List Nat × List (List Int))} (h : LsAt H kvs ps) (s : Same H H') : LsAt H' kvs ps := ⟨h.1, fun i n ll e => by
  obtain ⟨a, h1, h2⟩ := h.2 i n ll e
  exact ⟨a, h1, h2.same s⟩⟩
theorem LsAt.keys {H : Hp} {kvs : List (Key × V)} {ps : List (List Nat × List (List Int))} (h : LsAt H kvs ps) : kvs.map (·.1) = ((ps.map (·.1)).map S).map Sum.inr := by
  refine List.ext_getElem? fun j => ?_
  rw [List.getElem?_map, List.getElem?_map, List.getElem?_map, List.getElem?_map]
  cases e : ps[j]? with
  | none =>
    rw [List.getElem?_eq_none (by rw [h.1]; exact List.getElem?_eq_none_iff.mp e)]
    rfl
  | some u =>
    obtain ⟨pp, h1, _⟩ := h.2 j u.1 u.2 e
    rw [h1]
    rfl
theorem joinL_nil : ∀ l : List (List Nat), TL.joinL [] l = l.flatten
  | [] => rfl
  | [p] => by rw [List.flatten_cons, List.flatten_nil, List.append_nil]; rfl
  | p :: q :: r => by
    show p ++ ([] ++ TL.joinL [] (q :: r)) = _
    rw [joinL_nil (q :: r), List.flatten_cons (l := p), List.nil_append]
theorem sum_most {m : Nat} : ∀ {l : List Nat}, (∀ k ∈ l, k ≤ m) → l.sum ≤ l.length * m
  | [], _ => Nat.zero_le _
  | k :: l, h => by
    have h1 := h k List.mem_cons_self
    have h2 := sum_most fun q hq => h q (List.mem_cons_of_mem _ hq)
    rw [List.sum_cons, List.length_cons, Nat.succ_mul]
    omega
theorem wr_one {n : Int} (h0 : 0 ≤ n) (h6 : n ≤ 6) : (wr n).length = 1 := by
  obtain ⟨k, rfl⟩ : ∃ k : Nat, n = (k : Int) := ⟨n.toNat, by omega⟩
  have : k = 0 ∨ k = 1 ∨ k = 2 ∨ k = 3 ∨ k = 4 ∨ k = 5 ∨ k = 6 := by omega
  rcases this with h | h | h | h | h | h | h <;> subst h <;> decide +kernel
theorem lot_short {ll : List (List Int)} (h : flaw ll = none) : (∀ r ∈ ll, (rowL r).length ≤ 6) ∧ (lotL ll).length ≤ 35 := by
  have h0 := flaw_ok h
  have hr := flaw_rows h
  have h6 : ∀ r ∈ ll, (rowL r).length ≤ 6 := fun r hr' => by
    have hl := hr r hr'
    have := joinL_len (ps := r.map wr) (k := 1) fun p hp => by
      obtain ⟨n, hn, rfl⟩ := List.mem_map.mp hp
      rw [wr_one (hl.2 n hn).1 (hl.2 n hn).2]
      exact Nat.le_refl _
    rw [List.length_map] at this
    have e := hl.1
    show (TL.joinL [44] (r.map wr)).length ≤ 6
    omega
  refine ⟨h6, ?_⟩
  have := joinB_len (ps := ll.map rowL) (k := 6) fun p hp => by
    obtain ⟨r, hr', rfl⟩ := List.mem_map.mp hp
    exact h6 r hr'
  rw [List.length_map] at this
  show (TL.joinL [32] (ll.map rowL)).length ≤ 35
  omega
theorem lot_most {ll : List (List Int)} (h : flaw ll = none) : (lotL ll).length ≤ 16000 := Nat.le_trans (lot_short h).2 (by decide)
/-- a line's reading -/
def teLn (K : PySem.W.Frag) : TE := fun σ H Q => tJs [tFmt (tVar 1), tC (.str " "), tFmt (tCall spLotText0 [] E0 (tCons (tDGet (tFld K (tFld K (tVar 0) "shelf") "stock") (tVar 1)) tNil)), tC (.str "\n")] Str.empty σ H fun out H1 => Q (.str out) H1
def spYStr (CY CS : Addr) : Sp := fun vs H Q _ => ∃ (y : Addr) (kvs : List (Key × V)) (ps : List (List Nat × List (List Int))), vs = [.ref y] ∧ YdK CY CS H y kvs ∧ LsAt H kvs ps ∧ ps.length ≤ 8 ∧ (ps.map (·.1)).Pairwise (· < ·) ∧ (∀ p ∈ ps, p.1.length ≤ 100 ∧ flaw p.2 = none) ∧ ∀ H', Same H H' → Q (.str (S (pgT ps))) H'
theorem ok_yStr {f CY CS : Addr} {fd : FuncData} (F : Fun K "__str__" "Yard.__str__" (sY 25) f fd) (T : YdTxt K mg CY) (TS : ShTxt K mg CS) (CN : MCal P w K mg base CX0 1 CY "names" ["self"] (spYNames CY CS)) (CL : Cal P w K mg base CX0 3 "lot_text" ["lot"] spLotText0) : FnOk P w K mg base CX0 4 f fd ["self"] (spYStr CY CS) := by
  obtain ⟨fN, fdN, GN, mN, bN⟩ := CN
  obtain ⟨fL, fdL, GL, gL, kL, bL⟩ := CL.ex
  refine F.ok scYS (fun vs H Q E h => ?_) (fun cdv A outer s H vs Q E hr h => ?_)
  · obtain ⟨y, kvs, ps, rfl, _⟩ := h
    rfl
  · obtain ⟨y, kvs, ps, rfl, hY, hls, h8, hrise, hgood, q⟩ := h
    have hu : (A.deeper (envOfC "Yard.__str__" (defScope (sY 25)) s.heap.objs.size f cdv)).units + 1 < cLine := by
      have := hr.un
      omega
    obtain ⟨dy, sh, dx, st, so, fs, evs, l, h1, h2, h3, h4, h5, h6⟩ := id hY
    refine ⟨_, pss_one (ps_ret (pe_join pe_str (pe_lc (te := teLn K) (own := [("name", 1)]) (g := gName 1) (tt := tYes) rfl scYS.nd (pi_list (pe_meth0 (pv 0) T.cl mN GN (hr.mono (by decide)) bN .nil pass0))
      (blkOk_by (own := [("name", 1)]) (N := ["self", "name"]) (sc := defScope (sY 25)) (by decide +kernel)) (fun _ _ _ _ _ => pg_name (i := 1) scYS.nd rfl (Or.inl rfl)) (fun _ _ _ _ _ => pts_nil)
      (fun _ _ _ _ _ => pe_joined (.cons (pe_fmt (pv 1)) (.cons pe_str (.cons (pe_fmt (pe_call GL (hr.mono (by decide)) (by rfl) gL kL bL .nil pass0 (pa_cons (pe_dget hu (pe_fld (pe_fld (pv 0) rfl) rfl) (pv 1) (fun _ _ => rfl)) pa_nil))) (.cons pe_str .nil)))))))), ?_⟩
    refine ⟨⟨_, rfl⟩, .ref y, rfl, y, dy, _, rfl, h1, h2 "names" (by decide +kernel), nilA ⟨y, kvs, ps.map (·.1), rfl, hY, hls.keys, by rw [List.length_map]; exact h8, hrise, fun H0 pl s0 hpl => ⟨pl, rfl, ⟨_, SqL.of hpl⟩, fun D nD => ?_⟩⟩⟩
    have z0 : Str.empty = S [] := rfl
    have kn : (kvs.map (·.1)).Nodup := by
      rw [hls.keys]
      refine List.Pairwise.map Sum.inr (fun a b (h : a ≠ b) e => h (Sum.inr.inj e)) (List.Pairwise.map S (R := fun a b => a ≠ b) (fun a b h e => h (SX.S_inj e)) (hrise.imp fun {a b} h e => ?_))
      rw [e] at h
      exact List.lt_irrefl _ h
    refine lc_list (K := K) (a := pl) (xs := ((ps.map (·.1)).map S).map V.str) (fun i H' => Same H0 H' ∧ H' D = some (.lst ((((ps.map lnT).map S).take i).map V.str))) ⟨same_new nD, upd_same⟩ (fun i H' _ ⟨sm, _⟩ => SqL.of (sm _ _ hpl)) (fun i x H' hx ⟨sm, hD⟩ => ?_) (fun H' ⟨sm, hD⟩ => ?_)
    · obtain ⟨n, ll, hp, rfl⟩ : ∃ n ll, ps[i]? = some (n, ll) ∧ x = V.str (S n) := by
        rw [List.getElem?_map, List.getElem?_map, List.getElem?_map] at hx
        cases e : ps[i]? with
        | none => rw [e] at hx; cases hx
        | some q => rw [e] at hx; exact ⟨q.1, q.2, rfl, (Option.some.inj hx).symm⟩
      obtain ⟨a, ha, hL⟩ := hls.2 i n ll hp
      obtain ⟨g1, g2⟩ := hgood _ (List.mem_of_getElem? hp)
      have g1 : n.length ≤ 100 := g1
      have sH := s0.trans sm
      refine ⟨rfl, yes (iteT ?_)⟩
      have hl2 : (lotL ll).length ≤ 16000 := lot_most g2
      have sl : (100000 : Nat) ≤ sizeLine := by decide
      refine ⟨.str (S n), rfl, .inl ⟨S n, rfl, by rw [S_len]; omega, _, rfl, by rw [z0, S_cat, S_len]; simp; omega, _, rfl, ?_, .ref y, rfl, y, CY, dy, _, .ref sh, rfl, sH _ _ h1, T.cl, T.nS, List.lookup_cons_self, sh, CS, dx, _, .ref st, rfl, sH _ _ h3, TS.cl, TS.nS, sh_stock, .str (S n), rfl, st, .ref a, rfl, .inl ⟨kvs, .inr (S n), .inl (sH _ _ h4), rfl, (valV_get kn ha).symm⟩, a, ll, rfl, hL.same sH, g2, fun H2 s2 => .inl ⟨S (lotL ll), rfl, ?_, _, rfl, ?_, _, rfl, ?_, _, s2 _ _ hD, ?_, same_late (sm.trans s2) nD, ?_⟩⟩⟩
      · rw [z0, S_cat, st_blank, S_cat, S_len]; simp; omega
      · rw [S_len]; omega
      · rw [z0, S_cat, st_blank, S_cat, S_cat, S_len]; simp; omega
      · rw [z0, S_cat, st_blank, S_cat, S_cat, st_line, S_cat, S_len]; simp; omega
      · rw [List.length_map, List.length_take, List.length_map, List.length_map]
        exact small1000 (by omega)
      · have e : ((ps.map lnT).map S)[i]? = some (S (lnT (n, ll))) := by rw [List.getElem?_map, List.getElem?_map, hp]; rfl
        rw [upd_same, List.take_add_one, e, List.map_append, z0, S_cat, st_blank, S_cat, S_cat, st_line, S_cat]
        rfl
    · rw [List.take_of_length_le (by rw [List.length_map, List.length_map, List.length_map, List.length_map, List.length_map]; omega)] at hD
      refine ⟨_, D, _, rfl, rfl, .inl (SqL.of hD), ?_, ?_⟩
      · rw [show (Str.ofString "" : Str).length = 0 from by decide +kernel, Nat.mul_zero, Nat.add_zero, SX.lens]
        refine Nat.le_trans (sum_most (m := 17000) fun k hk => ?_) (by rw [List.length_map, List.length_map]; omega)
        obtain ⟨q, hq, rfl⟩ := List.mem_map.mp hk
        obtain ⟨r, hr', rfl⟩ := List.mem_map.mp hq
        obtain ⟨g1, g2⟩ := hgood _ hr'
        have hl2 : (lotL r.2).length ≤ 16000 := lot_most g2
        unfold lnT
        simp
        omega
      · have ej : Txt.join (Str.ofString "") ((ps.map lnT).map S) = S (pgT ps) := by
          rw [show (Str.ofString "" : Str) = S [] from TL.ext_tl (by rw [TL.tl_ofString]; rfl), join_S, joinL_nil]
          rfl
        rw [ej]
        exact q H' (s0.trans sm)
theorem ok_page {f CY CS : Addr} {fd : FuncData} (F : Fun K "page" "page" sPage f fd) (B : Bl mg) (CT : MCal P w K mg base CX0 4 CY "__str__" ["self"] (spYStr CY CS)) : FnOk P w K mg base CX0 7 f fd ["yard"] (spYStr CY CS) := by
  obtain ⟨fS, fdS, GS, mS, bS⟩ := CT
  refine F.ok scPg (fun vs H Q E h => ?_) (fun cdv A outer s H vs Q E hr h => ?_)
  · obtain ⟨y, kvs, ps, rfl, _⟩ := h
    rfl
  · obtain ⟨y, kvs, ps, rfl, hY, h⟩ := h
    refine ⟨_, pss_one (ps_ret (pe_callTy (call_strO (E := fun _ _ _ => False) GS mS.at_ mS.fn bS (hr.mono (by decide)) pass0) (by rfl) B.str (by decide +kernel) (pa_cons (pv 0) pa_nil))), ?_⟩
    obtain ⟨dy, sh, dx, st, so, fs, evs, l, h1, h2, h3, h4, h5, h6⟩ := id hY
    obtain ⟨g1, g2, g3, g4, q⟩ := h
    exact ⟨.ref y, rfl, y, dy, _, rfl, h1, y, kvs, ps, rfl, hY, g1, g2, g3, g4, fun H' s' => ⟨_, rfl, q H' s'⟩⟩
end
end HL

set_option pp.maxSteps 3000
namespace HL
open PySem PySem.Spec PyProof.Rows L2
open C8 (pss_cut)
open SX (S S_len split_S join_S)
theorem scNmL : FnScope ["_law_name", "_law_sign"] ["_law_name"] (defScope sIsNameL) := ⟨rfl, rfl, rfl, by decide +kernel, rfl, by decide +kernel, by decide +kernel⟩
theorem scIsLot : FnScope ["_law_lot_here", "_law_hold_here"] ["_law_lot_here"] (defScope sIsLot) := ⟨rfl, rfl, rfl, by decide +kernel, rfl, by decide +kernel, by decide +kernel⟩
theorem scLI : FnScope ["_law_text", "_law_rows", "_law_word", "_law_row", "_law_one"] ["_law_text"] (defScope sLotIn) := ⟨rfl, rfl, rfl, by decide +kernel, rfl, by decide +kernel, by decide +kernel⟩
theorem scRd53 : FnScope ["_law_text", "_law_lines", "_law_last", "_law_at", "_law_words"] ["_law_text"] (defScope sRead53) := ⟨rfl, rfl, rfl, by decide +kernel, rfl, by decide +kernel, by decide +kernel⟩
theorem sz_2 (v w : V) : [v, w].length ≤ sizeLine := by
  show 2 ≤ sizeLine
  decide
theorem spl_ne (s : List Nat) : ∀ (z acc : List Nat), TL.spl [32] 0 acc z ≠ [] ∧ TL.spl [44] 0 acc z ≠ []
  | [], acc => by rw [TL.spl_nil, TL.spl_nil]; exact ⟨List.cons_ne_nil _ _, List.cons_ne_nil _ _⟩
  | c :: r, acc => by
    constructor
    · cases e : TL.pre [32] (c :: r) with
      | true => rw [TL.spl_hit e]; exact List.cons_ne_nil _ _
      | false => rw [TL.spl_miss e]; exact (spl_ne s r _).1
    · cases e : TL.pre [44] (c :: r) with
      | true => rw [TL.spl_hit e]; exact List.cons_ne_nil _ _
      | false => rw [TL.spl_miss e]; exact (spl_ne s r _).2
theorem kinds_ne (z : List Nat) : kindsOf z ≠ [] := (spl_ne [] z []).1
theorem words_ne (z : List Nat) : wordsOf z ≠ [] := (spl_ne [] z []).2
theorem rowsT_len (z : List Nat) : (rowsT z).length = (kindsOf z).length := by unfold rowsT; rw [List.length_map]
theorem rowsT_pos (z : List Nat) : 1 ≤ (rowsT z).length := by
  rw [rowsT_len]
  exact List.length_pos_iff.mpr (kinds_ne z)
theorem rowsT_ne {z : List Nat} : ∀ r ∈ rowsT z, r ≠ [] := fun r hr => by
  unfold rowsT at hr
  obtain ⟨u, _, rfl⟩ := List.mem_map.mp hr
  exact fun e => words_ne u (List.map_eq_nil_iff.mp e)
theorem rowsT_most {z : List Nat} (h : z.length ≤ 150) : (rowsT z).length ≤ 151 ∧ ∀ r ∈ rowsT z, r.length ≤ 151 := by
  refine ⟨by rw [rowsT_len]; have := (kinds_len z).1; omega, fun r hr => ?_⟩
  unfold rowsT at hr
  obtain ⟨u, hu, rfl⟩ := List.mem_map.mp hr
  rw [List.length_map]
  have h1 := (kinds_len z).2 u hu
  have h2 := (words_len u).1
  omega
theorem width_pos (z : List Nat) : 1 ≤ width (rowsT z) := by
  have h1 := rowsT_pos z
  unfold width
  cases e : rowsT z with
  | nil => rw [e] at h1; simp at h1
  | cons r rs =>
    have := rowsT_ne (z := z) r (by rw [e]; exact List.mem_cons_self)
    exact List.length_pos_iff.mpr this
theorem in_nums (ws : List (List Nat)) : inV .non (ws.map numV) = !ws.all isNum := by
  unfold inV
  induction ws with
  | nil => rfl
  | cons u ws ih =>
    rw [List.map_cons, List.any_cons, ih, List.all_cons, Bool.not_and]
    congr 1
    unfold numV
    cases isNum u <;> rfl
theorem nums_flat (ws : List (List Nat)) : (ws.map numV).all flatV = true := by
  refine List.all_eq_true.mpr fun v hv => ?_
  obtain ⟨u, _, rfl⟩ := List.mem_map.mp hv
  unfold numV
  cases isNum u <;> rfl
theorem nums_ints {ws : List (List Nat)} (h : ws.all isNum = true) : ws.map numV = (ws.map valW).map V.int := by
  rw [List.map_map]
  refine List.map_congr_left fun u hu => ?_
  unfold numV
  rw [if_pos (List.all_eq_true.mp h u hu)]
  rfl
/-- a row that can be held, as the law looks at it -/
theorem okRow_law {g : Nat} {r : List Int} {lo hi : Int} (hlo : lo ∈ r) (l1 : ∀ y ∈ r, lo ≤ y) (hhi : hi ∈ r) (h1 : ∀ y ∈ r, y ≤ hi) : okRow g r = (decide (r.length = g) && decide (0 < r.sum) && decide (0 ≤ lo) && decide (hi ≤ 6)) := by
  rw [Bool.eq_iff_iff, okRow_iff]
  simp only [Bool.and_eq_true, decide_eq_true_eq]
  constructor
  · rintro ⟨a, b, c⟩
    exact ⟨⟨⟨a, sum_pos (fun n hn => (b n hn).1) c⟩, (b lo hlo).1⟩, (b hi hhi).2⟩
  · rintro ⟨⟨⟨a, b⟩, c⟩, d⟩
    have h0 : ∀ n ∈ r, 0 ≤ n ∧ n ≤ 6 := fun n hn => ⟨Int.le_trans c (l1 n hn), Int.le_trans (h1 n hn) d⟩
    refine ⟨a, h0, ?_⟩
    by_cases e : ∃ n ∈ r, 0 < n
    · exact e
    · have : ∀ n ∈ r, n = 0 := fun n hn => by
        have := (h0 n hn).1
        have : ¬ 0 < n := fun z => e ⟨n, hn, z⟩
        omega
      have z : r.sum = 0 := by
        clear b
        induction r with
        | nil => rfl
        | cons x r ih => rw [List.sum_cons, this x List.mem_cons_self]; exact (by
            have : ∀ (l : List Int), (∀ n ∈ l, n = 0) → (0 : Int) + l.sum = 0 := fun l => by
              induction l with
              | nil => intro _; rfl
              | cons y l ih2 => intro h; rw [List.sum_cons, h y List.mem_cons_self]; have := ih2 fun n hn => h n (List.mem_cons_of_mem _ hn); omega
            exact this r fun n hn => ‹∀ n ∈ x :: r, n = 0› n (List.mem_cons_of_mem _ hn))
      omega
theorem flaw_all {ll : List (List Int)} (h1 : 1 ≤ ll.length) (h2 : 1 ≤ width ll) : (decide (ll.length ≤ 5) && decide (width ll ≤ 3) && ll.all (okRow (width ll))) = (flaw ll).isNone := by
  unfold flaw
  by_cases c : 1 ≤ ll.length ∧ ll.length ≤ 5 ∧ 1 ≤ width ll ∧ width ll ≤ 3
  · rw [if_pos c, decide_eq_true c.2.1, decide_eq_true c.2.2.2, Bool.true_and, Bool.true_and]
    cases e : ll.all (okRow (width ll)) with
    | true =>
      rw [flawIn_none fun j r _ hj => List.all_eq_true.mp e r (List.mem_of_getElem? hj)]
      rfl
    | false =>
      have : ∃ r ∈ ll, okRow (width ll) r = false := by
        rw [List.all_eq_false] at e
        obtain ⟨r, hr, hb⟩ := e
        exact ⟨r, hr, by simpa using hb⟩
      obtain ⟨r, hr, hb⟩ := this
      show false = Option.isNone ((ll.findIdx? fun r => !okRow (width ll) r).map fun i => (i : Int))
      cases q : ll.findIdx? fun r => !okRow (width ll) r with
      | none =>
        have := List.findIdx?_eq_none_iff.mp q r hr
        rw [hb] at this
        cases this
      | some i => rfl
  · rw [if_neg c]
    by_cases d : ll.length ≤ 5
    · rw [decide_eq_false (show ¬ width ll ≤ 3 by omega), Bool.and_false, Bool.false_and]
      rfl
    · rw [decide_eq_false d, Bool.false_and, Bool.false_and]
      rfl
theorem head_width {ll : List (List Int)} {r : List Int} (h : ll[0]? = some r) : width ll = r.length := by
  unfold width
  cases ll with
  | nil => simp at h
  | cons x xs =>
    have e : x = r := by simpa using h
    rw [e]
    rfl
theorem max_some : ∀ {r : List Int}, r ≠ [] → ∃ hi ∈ r, ∀ y ∈ r, y ≤ hi
  | [], h => absurd rfl h
  | [x], _ => ⟨x, List.mem_cons_self, fun y hy => by rw [List.mem_singleton.mp hy]; exact Int.le_refl _⟩
  | x :: y :: r, _ => by
    obtain ⟨m, hm, h⟩ := max_some (r := y :: r) (List.cons_ne_nil _ _)
    by_cases c : x ≤ m
    · refine ⟨m, List.mem_cons_of_mem _ hm, fun w hw => ?_⟩
      rcases List.mem_cons.mp hw with e | e
      · rw [e]; exact c
      · exact h w e
    · refine ⟨x, List.mem_cons_self, fun w hw => ?_⟩
      rcases List.mem_cons.mp hw with e | e
      · rw [e]; exact Int.le_refl _
      · have := h w e
        omega
theorem min_some : ∀ {r : List Int}, r ≠ [] → ∃ lo ∈ r, ∀ y ∈ r, lo ≤ y
  | [], h => absurd rfl h
  | [x], _ => ⟨x, List.mem_cons_self, fun y hy => by rw [List.mem_singleton.mp hy]; exact Int.le_refl _⟩
  | x :: y :: r, _ => by
    obtain ⟨m, hm, h⟩ := min_some (r := y :: r) (List.cons_ne_nil _ _)
    by_cases c : m ≤ x
    · refine ⟨m, List.mem_cons_of_mem _ hm, fun w hw => ?_⟩
      rcases List.mem_cons.mp hw with e | e
      · rw [e]; exact c
      · exact h w e
    · refine ⟨x, List.mem_cons_self, fun w hw => ?_⟩
      rcases List.mem_cons.mp hw with e | e
      · rw [e]; exact Int.le_refl _
      · have := h w e
        omega
theorem zero_sum : ∀ {r : List Int}, (∀ n ∈ r, n = 0) → r.sum = 0
  | [], _ => rfl
  | x :: r, h => by rw [List.sum_cons, h x List.mem_cons_self, zero_sum fun n hn => h n (List.mem_cons_of_mem _ hn)]; rfl
theorem okRow_yes {g : Nat} {r : List Int} {lo hi : Int} (e : r.length = g) (hs : r.sum ≠ 0) (l1 : ∀ y ∈ r, lo ≤ y) (h0 : ¬ lo < 0) (h1 : ∀ y ∈ r, y ≤ hi) (h6 : ¬ hi > 6) : okRow g r = true := by
  have hb : ∀ n ∈ r, 0 ≤ n ∧ n ≤ 6 := fun n hn => by
    have := l1 n hn
    have := h1 n hn
    omega
  refine okRow_iff.mpr ⟨e, hb, ?_⟩
  by_cases c : ∃ n ∈ r, 0 < n
  · exact c
  · refine absurd (zero_sum fun n hn => ?_) hs
    have := (hb n hn).1
    have : ¬ 0 < n := fun z => c ⟨n, hn, z⟩
    omega
theorem okRow_no {g : Nat} {r : List Int} (h : ¬ (r.length = g ∧ (∀ n ∈ r, 0 ≤ n ∧ n ≤ 6) ∧ ∃ n ∈ r, 0 < n)) : okRow g r = false := by
  cases e : okRow g r with
  | false => rfl
  | true => exact absurd (okRow_iff.mp e) h
section
variable {P : Program} {w : World} {K : PySem.W.Frag} {mg : Str → Option Value} {base : Heap}
theorem ok_isNmL {f : Addr} {fd : FuncData} {k : Nat} (F : Fun K "_law_is_name" "_law_is_name" sIsNameL f fd) (B : Bl mg) : FnOk P w K mg base CX0 (k + 1) f fd ["_law_name"] spIsNm := by
  refine F.ok scNmL (fun vs H Q E h => ?_) (fun cdv A outer s H vs Q E hr h => ?_)
  · obtain ⟨z, rfl, _⟩ := h
    rfl
  · obtain ⟨z, rfl, hz, q⟩ := h
    refine ⟨_, (pss_one (ps_ret (pe_and (pe_chain op_le op_le pe_int (pe_callB call_len_str (by rfl) B.len PySem.boot_len (pa_cons (pv 0) pa_nil)) pe_int) (pe_one (pe_callB (cr_all rfl) (by rfl) B.all (by decide +kernel) (pa_cons (pe_lc (own := [("_law_sign", 1)]) (g := gName 1) (tt := tYes) rfl scNmL.nd (pi_str (pv 0))
        (blkOk_by (own := [("_law_sign", 1)]) (N := ["_law_name", "_law_sign"]) (sc := defScope sIsNameL) (by decide +kernel)) (fun _ _ _ _ _ => pg_name (i := 1) scNmL.nd rfl (Or.inl rfl)) (fun _ _ _ _ _ => pts_nil)
        (fun _ _ _ _ _ => pe_cmpR op_in_sign (pv 1) pe_str (by rfl))) pa_nil)))))), ?_⟩
    have lf : (S z).length ≤ sizeLine := by
      rw [S_len]
      exact sz1000 hz
    refine ⟨.str (S z), rfl, S z, rfl, lf, 1, _, rfl, rfl, _, rfl, ?_⟩
    rw [S_len]
    refine chainV ⟨_, rfl, ?_⟩
    refine ite2 (fun c1 => ?_) (fun c1 => ?_)
    · have c1' : 1 ≤ z.length ∧ z.length ≤ 8 := by
        simp at c1
        omega
      refine ⟨.str (S z), rfl, S z, rfl, fun D nD => ?_⟩
      refine lc_it walk_str (fun i H' => Same H H' ∧ H' D = some (.lst (((z.take i).map fun c => decide (c ∈ lets)).map V.bl))) ⟨same_new nD, upd_same⟩ (fun _ _ _ _ => True.intro) (fun i x H' H2 hi ⟨sm, hD⟩ ⟨eH, c, hc, ex⟩ => ?_) (fun H' ⟨sm, hD⟩ => ?_)
      · subst eH ex
        have hc' : z[i]? = some c := by simpa using hc
        refine ⟨rfl, yes (iteT ?_)⟩
        refine ⟨_, rfl, c, _, rfl, rfl, _, hD, ?_, same_late sm nD, ?_⟩
        · rw [List.length_map, List.length_map]
          exact small1000 (Nat.le_trans (List.length_take_le' _ _) hz)
        · rw [upd_same, List.take_add_one, hc', List.map_append, List.map_append, st_lets]
          rfl
      · have e0 : (S z).cps.size = z.length := S_len z
        rw [e0, List.take_length] at hD
        refine ⟨D, _, rfl, SqL.of hD, ?_⟩
        have eall : ((z.map fun c => decide (c ∈ lets)).all id) = z.all fun c => decide (c ∈ lets) := by
          rw [List.all_map]
          rfl
        rw [eall]
        have q1 := q H' sm
        unfold isNm at q1
        rw [decide_eq_true c1', Bool.true_and] at q1
        exact q1
    · have e : isNm z = false := by
        unfold isNm
        rw [decide_eq_false (fun y => c1 (by simp; omega)), Bool.false_and]
      have q1 := q H (Same.refl _)
      rw [e] at q1
      exact q1
/-! ### is_lot of the law -/
def spIsLot : Sp := fun vs H Q _ => ∃ (p : Addr) (as : List Addr) (ll : List (List Int)), vs = [.ref p] ∧ H p = some (.lst (as.map V.ref)) ∧ Rows H as ll ∧ 1 ≤ ll.length ∧ (∀ r ∈ ll, r ≠ []) ∧ ll.length ≤ 151 ∧ (∀ r ∈ ll, r.length ≤ 151) ∧ Q (.bl (flaw ll).isNone) H
theorem ok_isLot {f : Addr} {fd : FuncData} {k : Nat} (F : Fun K "_law_is_lot" "_law_is_lot" sIsLot f fd) (B : Bl mg) : FnOk P w K mg base CX0 (k + 1) f fd ["_law_lot_here"] spIsLot := by
  refine F.ok scIsLot (fun vs H Q E h => ?_) (fun cdv A outer s H vs Q E hr h => ?_)
  · obtain ⟨p, as, ll, rfl, _⟩ := h
    rfl
  · obtain ⟨p, as, ll, rfl, hp, hR, h1, hne, z1, z2, q⟩ := h
    refine ⟨_, (pss_cons (ps_if (PW.pt (pw_or (pt_not (pt_chain op_le op_le pe_int (pe_callB call_len_seq (by rfl) B.len PySem.boot_len (pa_cons (pv 0) pa_nil)) pe_int)) (pw_or1 (pt_not (pt_chain op_le op_le pe_int (pe_callB call_len_seq (by rfl) B.len PySem.boot_len (pa_cons (pe_ix ix_list (pv 0) pe_int (fun _ _ => rfl)) pa_nil)) pe_int))))) (pss_one (ps_ret pe_bl)) pss_nil)
      (pss_cons (ps_for PassesOwn.never rfl (pi_list (pv 0)) (pg_name (i := 1) scIsLot.nd rfl (.inl rfl))
      (pss_one (ps_if (PW.pt (pw_or (pt_cmpR op_ne (pe_callB call_len_seq (by rfl) B.len PySem.boot_len (pa_cons (pv 1) pa_nil)) (pe_callB call_len_seq (by rfl) B.len PySem.boot_len (pa_cons (pe_ix ix_list (pv 0) pe_int (fun _ _ => rfl)) pa_nil)) (nomark _)) (pw_or (pt_cmpR op_eq (pe_callB (cr_sumT rfl) (by rfl) B.sum (by decide +kernel) (pa_cons (pv 1) pa_nil)) pe_int (nomark _)) (pw_or (pt_cmpR op_lt (pe_callB (cr_minT rfl hr.units) (by rfl) B.min (by decide +kernel) (pa_cons (pv 1) pa_nil)) pe_int (nomark _)) (pw_or1 (pt_cmpR op_gt (pe_callB (cr_maxT rfl hr.units) (by rfl) B.max (by decide +kernel) (pa_cons (pv 1) pa_nil)) pe_int (nomark _))))))) (pss_one (ps_ret pe_bl)) pss_nil)))
      (pss_one (ps_ret pe_bl)))), ?_⟩
    have hlen := hR.len
    have sP : SqL K H p (as.map V.ref) := SqL.of hp
    refine ⟨.ref p, rfl, p, _, rfl, .inl sP, 1, _, rfl, rfl, _, rfl, chainI ?_⟩
    rw [List.length_map, hlen]
    have no : flaw ll ≠ none → Q (.bl false) H := fun e => by
      cases c : flaw ll with
      | none => exact absurd c e
      | some k => rw [c] at q; exact q
    refine ite2 (fun c1 => iteT (no fun e => ?_)) (fun c1 => ?_)
    · have := flaw_ok e
      simp at c1
      omega
    · have c1' : ll.length ≤ 5 := by
        simp at c1
        omega
      obtain ⟨a0, ha0, hh0, hw⟩ := hR.head h1
      have at0 : atI (as.map V.ref) 0 = some (.ref a0) := atI_nat (j := 0) (by rw [List.getElem?_map, ha0]; rfl)
      refine ⟨.ref p, rfl, p, _, 0, .ref a0, rfl, rfl, sP, at0, a0, _, rfl, .inr (SqT.of hh0), 1, _, rfl, rfl, _, rfl, chainI ?_⟩
      rw [List.length_map, hw]
      refine ite2 (fun c2 => no fun e => ?_) (fun c2 => ?_)
      · have := flaw_ok e
        simp at c2
        omega
      · have c2' : 1 ≤ width ll ∧ width ll ≤ 3 := by
          simp at c2
          omega
        have eF : flaw ll = flawIn (width ll) ll := by
          unfold flaw
          rw [if_pos ⟨h1, c1', c2'.1, c2'.2⟩]
        refine ⟨.ref p, rfl, p, rfl, ⟨_, sP⟩, ?_⟩
        refine for_list (K := K) (a := p) (xs := as.map V.ref) (fun i σ H' => H' = H ∧ (∃ y1, σ = [some (.ref p), y1]) ∧ ∀ (j : Nat) (r : List Int), j < i → ll[j]? = some r → okRow (width ll) r = true) ⟨rfl, ⟨none, rfl⟩, fun j r hj => absurd hj (Nat.not_lt_zero j)⟩ (fun i σ H' _ hI => by rw [hI.1]; exact sP) (fun i x σ H4 hx hI => ?_) (fun σ H4 hI => ?_)
        · obtain ⟨rfl, ⟨y1, rfl⟩, hgood⟩ := hI
          obtain ⟨a, ha, rfl⟩ : ∃ n, as[i]? = some n ∧ x = V.ref n := by
            rw [List.getElem?_map] at hx
            cases e : as[i]? with
            | none => rw [e] at hx; cases hx
            | some n => rw [e] at hx; exact ⟨n, rfl, (Option.some.inj hx).symm⟩
          obtain ⟨r, hr1, hr2⟩ := hR.at ha
          have hrm := List.mem_of_getElem? hr1
          have rne := hne r hrm
          have rpos : 0 < r.length := List.length_pos_iff.mpr rne
          have bad : okRow (width ll) r = false → Q (.bl false) H4 := fun hb => no fun e => by
            rw [eF, flawIn_at hr1 hb fun j r' hj hjr => hgood j r' hj hjr] at e
            cases e
          refine ⟨.ref a, rfl, a, _, rfl, .inr (SqT.of hr2), .ref p, rfl, p, _, 0, .ref a0, rfl, rfl, sP, at0, a0, _, rfl, .inr (SqT.of hh0), rfl, _, rfl, ?_⟩
          rw [List.length_map, List.length_map, hw]
          have e : (!decide (V.int ((r.length : Nat) : Int) = V.int ((width ll : Nat) : Int))) = decide (r.length ≠ width ll) := by
            by_cases c : r.length = width ll
            · rw [c, decide_eq_true rfl]
              simp
            · rw [decide_eq_false fun w => c (by have := V.int.inj w; omega), decide_eq_true c]
              rfl
          rw [e]
          refine ite2 (fun d1 => iteT (bad (okRow_no fun h => (of_decide_eq_true d1) h.1))) (fun d1 => ?_)
          have len : r.length = width ll := by
            by_cases c : r.length = width ll
            · exact c
            · exact absurd (decide_eq_true c) d1
          refine ⟨.ref a, rfl, a, r, rfl, SqT.of hr2, rfl, _, rfl, ite2 (fun d2 => iteT (bad (okRow_no fun h => ?_))) (fun d2 => ?_)⟩
          · have z0 : r.sum = 0 := V.int.inj (of_decide_eq_true d2)
            have := sum_pos (fun n hn => (h.2.1 n hn).1) h.2.2
            omega
          have sne : r.sum ≠ 0 := fun z0 => d2 (decide_eq_true (congrArg V.int z0))
          refine ⟨.ref a, rfl, a, r, rfl, SqT.of hr2, rpos, fun lo l1 l2 => ⟨lo, 0, rfl, rfl, _, rfl, ite2 (fun d3 => iteT (bad (okRow_no fun h => ?_))) (fun d3 => ?_)⟩⟩
          · have := of_decide_eq_true d3
            have := (h.2.1 lo l1).1
            omega
          refine ⟨.ref a, rfl, a, r, rfl, SqT.of hr2, rpos, fun hi i1 i2 => ⟨hi, 6, rfl, rfl, _, rfl, ite2 (fun d4 => bad (okRow_no fun h => ?_)) (fun d4 => ?_)⟩⟩
          · have := of_decide_eq_true d4
            have := (h.2.1 hi i1).2
            omega
          · refine ⟨rfl, ⟨_, rfl⟩, fun j r' hj hjr => ?_⟩
            by_cases c : j < i
            · exact hgood j r' c hjr
            · have ej : j = i := by omega
              rw [ej, hr1] at hjr
              cases hjr
              exact okRow_yes len sne l2 (fun z0 => d3 (decide_eq_true z0)) i2 (fun z0 => d4 (decide_eq_true z0))
        · obtain ⟨rfl, ⟨y1, rfl⟩, hgood⟩ := hI
          rw [List.length_map, hlen] at hgood
          rw [eF, flawIn_none fun j r hj hjr => hgood j r hj hjr] at q
          exact q
/-! ### a lot in a text, by the law -/
def spLotIn : Sp := fun vs H Q _ => ∃ z : List Nat, vs = [.str (S z)] ∧ z.length ≤ 150 ∧ ((okT z && (flaw (rowsT z)).isNone) = true → ∀ H' p, Same H H' → Q (.ref p) H') ∧ ((okT z && (flaw (rowsT z)).isNone) = false → ∀ H', Same H H' → Q .non H')
theorem ok_lotIn {f : Addr} {fd : FuncData} (F : Fun K "_law_lot_in" "_law_lot_in" sLotIn f fd) (B : Bl mg) (CN : Cal P w K mg base CX0 1 "_law_number_in" ["_law_word"] spNumIn) (CL : Cal P w K mg base CX0 1 "_law_is_lot" ["_law_lot_here"] spIsLot) : FnOk P w K mg base CX0 2 f fd ["_law_text"] spLotIn := by
  obtain ⟨fI, fdI, GI, gI, kI, bI⟩ := CN.ex
  obtain ⟨fL, fdL, GL, gL, kL, bL⟩ := CL.ex
  refine F.ok scLI (fun vs H Q E h => ?_) (fun cdv A outer s H vs Q E hr h => ?_)
  · obtain ⟨z, rfl, _⟩ := h
    rfl
  · obtain ⟨z, rfl, hz, q1, q0⟩ := h
    refine ⟨_, (pss_cons (ps_set (i := 1) scLI.nd rfl (.inl rfl) (pe_lst pa_nil))
      (pss_cons (ps_for PassesOwn.never rfl (pi_list (pe_split (pv 0) pe_str)) (pg_name (i := 2) scLI.nd rfl (.inl rfl))
      (pss_cons (ps_setLc (i := 3) (own := [("_law_one", 4)]) (g := gName 4) (tt := tYes) rfl scLI.nd rfl rfl (sw_true rfl rfl rfl (by decide +kernel)) (pi_list (pe_split (pv 2) pe_str))
        (blkOk_by (own := [("_law_one", 4)]) (N := ["_law_text", "_law_rows", "_law_word", "_law_row", "_law_one"]) (sc := defScope sLotIn) (by decide +kernel)) (fun _ _ _ _ _ => pg_name (i := 4) scLI.nd rfl (Or.inl rfl)) (fun _ _ _ _ _ => pts_nil)
        (fun _ _ _ _ _ => (pe_call GI (hr.mono (by decide)) (by rfl) gI kI bI .nil pass0 (pa_cons (pv 4) pa_nil))))
      (pss_cons (ps_if (pt_cmpR op_in_seq pe_non (pv 3) (by rfl)) (pss_one (ps_ret pe_non)) pss_nil)
      (pss_one (ps_expr (pe_bm PySem.F.plainAttrs_list PySem.F.slot_list_append PySem.F.type_list_append mt_append (pv 1) (pa_cons (pe_callTy call_tuple_of (by rfl) B.tuple (by decide +kernel) (pa_cons (pv 3) pa_nil)) pa_nil)))))))
      (pss_one (ps_ret (pe_ifExp (pt_val (pe_call GL (hr.mono (by decide)) (by rfl) gL kL bL .nil pass0 (pa_cons (pv 1) pa_nil))) (pe_callTy call_tuple_of (by rfl) B.tuple (by decide +kernel) (pa_cons (pv 1) pa_nil)) pe_non))))), ?_⟩
    obtain ⟨w1, w2⟩ := kinds_len z
    obtain ⟨z1, z2⟩ := rowsT_most hz
    refine ⟨Nat.zero_le _, fun rl nrl => ?_⟩
    have s1 := same_new (o := .lst []) nrl
    refine ⟨.str (S z), rfl, ⟨_, rfl⟩, S z, _, rfl, rfl, by decide +kernel, by rw [S_len]; exact sz1000 (by omega), fun p np => ?_⟩
    rw [sp_blank]
    have sp := same_new (o := .lst (((kindsOf z).map S).map V.str)) np
    have s2 := s1.trans sp
    have hp : upd (upd H rl (.lst [])) p (.lst (((kindsOf z).map S).map V.str)) p = some (.lst (((kindsOf z).map S).map V.str)) := upd_same
    have hrl : upd (upd H rl (.lst [])) p (.lst (((kindsOf z).map S).map V.str)) rl = some (.lst ([].map V.ref)) := sp _ _ upd_same
    have pH : H p = none := s1.free np
    have prl : p ≠ rl := fun e => by rw [e, upd_same] at np; cases np
    generalize upd (upd H rl (.lst [])) p (.lst (((kindsOf z).map S).map V.str)) = H0 at s2 hp hrl ⊢
    refine ⟨p, rfl, ⟨_, SqL.of hp⟩, ?_⟩
    refine for_list (K := K) (a := p) (xs := ((kindsOf z).map S).map V.str) (fun i σ H' => Same H H' ∧ H' p = some (.lst (((kindsOf z).map S).map V.str)) ∧ (∀ u ∈ (kindsOf z).take i, (wordsOf u).all isNum = true) ∧ ∃ (as : List Addr) (y2 y3 : Option V), σ = [some (.str (S z)), some (.ref rl), y2, y3, none] ∧ H' rl = some (.lst (as.map V.ref)) ∧ Rows H' as ((rowsT z).take i))
      ⟨s2, hp, (fun u hu => by rw [List.take_zero] at hu; cases hu), [], none, none, rfl, hrl, by rw [List.take_zero]; exact True.intro⟩ (fun i σ H' _ hI => SqL.of hI.2.1) (fun i x σ H2 hx hI => ?_) (fun σ H2 hI => ?_)
    · obtain ⟨sm, hp2, hall, as, y2, y3, rfl, hrl2, hR⟩ := hI
      obtain ⟨u, hu, rfl⟩ := str_at hx
      have hum := List.mem_of_getElem? hu
      have hul := w2 u hum
      have hil := (List.getElem?_eq_some_iff.mp hu).1
      have er : (rowsT z)[i]? = some ((wordsOf u).map valW) := by unfold rowsT; rw [List.getElem?_map, hu]; rfl
      obtain ⟨u1, u2⟩ := words_len u
      refine ⟨.str (S u), rfl, ⟨_, rfl⟩, S u, _, rfl, rfl, by decide +kernel, by rw [S_len]; exact sz1000 (by omega), fun p2 np2 => ?_⟩
      rw [sp_comma]
      have sp2 := same_new (o := .lst (((wordsOf u).map S).map V.str)) np2
      refine ⟨p2, rfl, ⟨_, SqL.of upd_same⟩, fun D nD => ?_⟩
      have hp22 : upd H2 p2 (.lst (((wordsOf u).map S).map V.str)) p2 = some (.lst (((wordsOf u).map S).map V.str)) := upd_same
      generalize upd H2 p2 (.lst (((wordsOf u).map S).map V.str)) = H3 at sp2 hp22 nD ⊢
      refine lc_list (K := K) (a := p2) (xs := ((wordsOf u).map S).map V.str) (fun j H' => Same H3 H' ∧ H' D = some (.lst (((wordsOf u).map numV).take j))) ⟨same_new nD, upd_same⟩ (fun j H' _ ⟨s3, _⟩ => SqL.of (s3 _ _ hp22)) (fun j x H4 hx ⟨s4, hD⟩ => ?_) (fun H4 ⟨s4, hD⟩ => ?_)
      · obtain ⟨v, hv, rfl⟩ := str_at hx
        have hvl := u2 v (List.mem_of_getElem? hv)
        refine ⟨rfl, yes (iteT ?_)⟩
        refine ⟨_, rfl, v, rfl, by omega, fun H5 s5 => ⟨_, s5 _ _ hD, ?_, same_late (s4.trans s5) nD, ?_⟩⟩
        · exact small1000 (Nat.le_trans (List.length_take_le' _ _) (by rw [List.length_map]; omega))
        · have e : ((wordsOf u).map numV)[j]? = some (numV v) := by rw [List.getElem?_map, hv]; rfl
          rw [upd_same, List.take_add_one, e]
          rfl
      · rw [List.length_map, List.length_map, List.take_of_length_le (by rw [List.length_map]; exact Nat.le_refl _)] at hD
        have s34 := sp2.trans s4
        have sa := sm.trans s34
        refine ⟨.ref D, rfl, D, _, rfl, .inl (SqL.of hD), rfl, nums_flat _, _, rfl, ?_⟩
        rw [in_nums]
        refine ite2 (fun c1 => ?_) (fun c1 => ?_)
        · have bad : okT z = false := by
            cases e : okT z with
            | false => rfl
            | true =>
              have := List.all_eq_true.mp e u hum
              have this : (wordsOf u).all isNum = true := this
              rw [this] at c1
              cases c1
          exact q0 (by rw [bad, Bool.false_and]) _ sa
        · have good : (wordsOf u).all isNum = true := by
            cases e : (wordsOf u).all isNum with
            | true => rfl
            | false => rw [e] at c1; exact absurd rfl c1
          rw [nums_ints good] at hD
          have hrl4 := s34 _ _ hrl2
          refine ⟨.ref rl, rfl, .inl ⟨rfl, _, SqL.of hrl4⟩, .ref D, rfl, D, _, rfl, .inl ⟨SqL.of hD, fun t nt => ?_⟩⟩
          have st := same_new (o := .tup (((wordsOf u).map valW).map V.int)) nt
          have hrl5 := st _ _ hrl4
          have s35 := s34.trans st
          refine ⟨rl, _, _, rfl, rfl, hrl5, ?_, same_late (sm.trans s35) nrl, ?_, fun v hv => ?_, as ++ [t], _, _, rfl, by rw [upd_same, List.map_append]; rfl, ?_⟩
          · have := hR.len
            rw [List.length_take] at this
            rw [List.length_map]
            exact small1000 (by omega)
          · rw [upd_ne prl]
            exact s35 _ _ hp2
          · rw [List.take_add_one, hu] at hv
            rcases List.mem_append.mp hv with hv | hv
            · exact hall v hv
            · have : v = u := by simpa using hv
              rw [this]
              exact good
          · rw [List.take_add_one, er]
            refine Rows.app ((hR.same s35).putL hrl5) ?_
            refine ⟨?_, True.intro⟩
            rw [upd_ne (fun e => by rw [e, hrl4] at nt; cases nt), upd_same]
    · obtain ⟨sm, hp2, hall, as, y2, y3, rfl, hrl2, hR⟩ := hI
      rw [List.length_map, List.length_map] at hall hR
      rw [List.take_length] at hall
      rw [List.take_of_length_le (by rw [rowsT_len]; exact Nat.le_refl _)] at hR
      have hok : okT z = true := List.all_eq_true.mpr hall
      rw [hok, Bool.true_and] at q1 q0
      refine ⟨.ref rl, rfl, rl, as, rowsT z, rfl, hrl2, hR, rowsT_pos z, rowsT_ne, z1, z2, _, rfl, ?_⟩
      cases e : (flaw (rowsT z)).isNone with
      | true =>
        refine iteT ⟨.ref rl, rfl, rl, _, rfl, .inl ⟨SqL.of hrl2, fun t nt => ?_⟩⟩
        exact q1 e _ t (sm.trans (same_new nt))
      | false => exact iteF (q0 e _ sm)
/-! ### the law's own reader of pages -/
def pgV (z : List Nat) : V := match pgF z with
  | none => .non
  | some k => .int (k : Nat)
def spRead53 : Sp := fun vs H Q _ => ∃ z : List Nat, vs = [.str (S z)] ∧ z.length ≤ 3000 ∧ (linesOf z).length ≤ 60 ∧ (∀ u ∈ linesOf z, u.length ≤ 150) ∧ ∀ H', Same H H' → Q (pgV z) H'
theorem kinds_hd (u : List Nat) : (kindsOf u)[0]? = some (nmOf u) ∧ (2 ≤ (kindsOf u).length ↔ 32 ∈ u) ∧ (32 ∈ u → (kindsOf u).drop 1 = kindsOf (wrOf u)) := by
  by_cases h : 32 ∈ u
  · rw [kinds_cut h]
    refine ⟨rfl, ⟨fun _ => h, fun _ => ?_⟩, fun _ => rfl⟩
    rw [List.length_cons]
    have := List.length_pos_iff.mpr (kinds_ne53 (wrOf u))
    omega
  · rw [kinds_whole h, (line_whole h).1]
    exact ⟨rfl, ⟨fun e => absurd e (by simp), fun e => absurd e h⟩, fun e => absurd e h⟩
theorem okT_nil : okT [] = false := by decide +kernel
theorem spl_ne10r (z acc : List Nat) : TL.spl [10] 0 acc z ≠ [] := by
  induction z generalizing acc with
  | nil => rw [TL.spl_nil]; exact List.cons_ne_nil _ _
  | cons c r ih =>
    cases e : TL.pre [10] (c :: r) with
    | true => rw [TL.spl_hit e]; exact List.cons_ne_nil _ _
    | false => rw [TL.spl_miss e]; exact ih _
theorem st_emp : (Str.ofString "" : Str) = S [] := TL.ext_tl (by rw [TL.tl_ofString]; rfl)
theorem cut_one {K : PySem.W.Frag} {α : Type} (f : α → V) (l : List α) : cutV (l.map f) (some 1) none = (l.drop 1).map f := by
  unfold cutV
  rw [HT.sIx_none, show (some (1 : Int)) = some ((1 : Nat) : Int) from rfl, HT.sIx_nat, List.length_map]
  cases l with
  | nil => rfl
  | cons x r =>
    rw [List.length_cons, Nat.min_eq_left (by omega)]
    rw [List.take_of_length_le (by rw [List.length_drop, List.length_map, List.length_cons]; omega), List.map_drop]
theorem ok_read53 {f : Addr} {fd : FuncData} (F : Fun K "_law_read" "_law_read" sRead53 f fd) (B : Bl mg) (CN : Cal P w K mg base CX0 1 "_law_is_name" ["_law_name"] spIsNm) (CT : Cal P w K mg base CX0 2 "_law_lot_in" ["_law_text"] spLotIn) : FnOk P w K mg base CX0 3 f fd ["_law_text"] spRead53 := by
  obtain ⟨fN, fdN, GN, gN, kN, bN⟩ := CN.ex
  obtain ⟨fT, fdT, GT, gT, kT, bT⟩ := CT.ex
  refine F.ok scRd53 (fun vs H Q E h => ?_) (fun cdv A outer s H vs Q E hr h => ?_)
  · obtain ⟨z, rfl, _⟩ := h
    rfl
  · obtain ⟨z, rfl, hz, hl, hu, q⟩ := h
    refine ⟨_, (pss_cons (ps_set (i := 1) scRd53.nd rfl (.inl rfl) (pe_split (pv 0) pe_str))
      (pss_cons (ps_set (i := 2) scRd53.nd rfl (.inl rfl) pe_str)
      (pss_cons (ps_for PassesOwn.never rfl (pi_range1 (by rfl) B.range (pa_cons (pe_callB call_len_seq (by rfl) B.len PySem.boot_len (pa_cons (pv 1) pa_nil)) pa_nil)) (pg_name (i := 3) scRd53.nd rfl (.inl rfl))
      (pss_cons (ps_if (pt_cmpR op_eq (pv 3) (pe_op op_sub (pe_callB call_len_seq (by rfl) B.len PySem.boot_len (pa_cons (pv 1) pa_nil)) pe_int) (nomark _)) (pss_one (ps_ret (pe_ifExp (pt_cmpR op_eq (pe_ix ix_list (pv 1) (pv 3) (fun _ _ => rfl)) pe_str (nomark _)) pe_non (pv 3)))) pss_nil)
      (pss_cons (ps_set (i := 4) scRd53.nd rfl (.inl rfl) (pe_split (pe_ix ix_list (pv 1) (pv 3) (fun _ _ => rfl)) pe_str))
      (pss_cons (ps_if (PW.pt (pw_or (pt_not (pt_val (pe_call GN (hr.mono (by decide)) (by rfl) gN kN bN .nil pass0 (pa_cons (pe_ix ix_list (pv 4) pe_int (fun _ _ => rfl)) pa_nil)))) (pw_or (pt_cmpR op_le_str (pe_ix ix_list (pv 4) pe_int (fun _ _ => rfl)) (pv 2) (nomark _)) (pw_or (pt_cmpR op_gt (pv 3) pe_int (nomark _)) (pw_or1 (pt_cmpR op_lt (pe_callB call_len_seq (by rfl) B.len PySem.boot_len (pa_cons (pv 4) pa_nil)) pe_int (nomark _))))))) (pss_one (ps_ret (pv 3))) pss_nil)
      (pss_cons (ps_if (pt_cmpR op_isN (pe_call GT (hr.mono (by decide)) (by rfl) gT kT bT .nil pass0 (pa_cons (pe_join pe_str (pe_slice sl_list (pv 4) (po_some pe_int) po_none)) pa_nil)) pe_non (nomark _)) (pss_one (ps_ret (pv 3))) pss_nil)
      (pss_one (ps_set (i := 2) scRd53.nd rfl (.inl rfl) (pe_ix ix_list (pv 4) pe_int (fun _ _ => rfl)))))))))
      (pss_one (ps_ret pe_non))))), ?_⟩
    refine ⟨.str (S z), rfl, ⟨_, rfl⟩, S z, _, rfl, rfl, by decide +kernel, by rw [S_len, sizeLine_eq]; omega, fun la nla => ?_⟩
    rw [sp_line]
    have une : linesOf z ≠ [] := spl_ne10r z []
    have ulast := List.getLast?_eq_some_getLast une
    have ucat := (List.dropLast_concat_getLast une).symm
    have eF : pgF z = match pgG 0 [] (linesOf z).dropLast with
        | some i => some i
        | none => if (linesOf z).getLast? = some [] then none else some ((linesOf z).length - 1) := rfl
    rw [ulast] at eF
    generalize (linesOf z).getLast une = lst at ulast ucat eF
    generalize hus : linesOf z = us at *
    generalize hws : us.dropLast = ws at *
    have ulen : us.length = ws.length + 1 := by rw [ucat, List.length_append]; rfl
    have sl := same_new (o := .lst ((us.map S).map V.str)) nla
    have gl : upd H la (.lst ((us.map S).map V.str)) la = some (.lst ((us.map S).map V.str)) := upd_same
    generalize upd H la (.lst ((us.map S).map V.str)) = H1 at sl gl ⊢
    rw [st_emp]
    have emap : ((us.map S).map V.str).length = us.length := by rw [List.length_map, List.length_map]
    refine ⟨.ref la, rfl, la, _, rfl, .inl (SqL.of gl), _, rfl, by omega, by omega, ?_⟩
    rw [emap]
    refine for_range (lo := 0) (n := ((us.length : Nat) : Int).toNat) (fun i σ H2 => i ≤ ws.length ∧ Same H1 H2 ∧ pgG 0 [] (ws.take i) = none ∧ ∃ y3 y4, σ = [some (.str (S z)), some (.ref la), some (.str (S (ahd [] (ws.take i)))), y3, y4]) ⟨Nat.zero_le _, Same.refl _, rfl, none, none, rfl⟩ (fun i σ H2 hi hI => ?_) (fun σ H2 hI => ?_)
    · obtain ⟨hiw, s2, g0, y3, y4, rfl⟩ := hI
      have ez : (0 : Int) + (i : Nat) = ((i : Nat) : Int) := by omega
      rw [ez]
      have s02 := sl.trans s2
      have gl2 := s2 _ _ gl
      refine ⟨.int (i : Nat), rfl, .ref la, rfl, la, _, rfl, .inl (SqL.of gl2), _, 1, rfl, rfl, rfl, _, rfl, ?_⟩
      rw [emap]
      have ult : us[i]? = some ((us[i]?).getD []) := by
        cases e : us[i]? with
        | none => have := List.getElem?_eq_none_iff.mp e; omega
        | some c => rfl
      have ati : ∀ {u : List Nat}, us[i]? = some u → atI ((us.map S).map V.str) ((i : Nat) : Int) = some (.str (S u)) := fun {u} e => atI_nat (by rw [List.getElem?_map, List.getElem?_map, e]; rfl)
      refine ite2 (fun c1 => ?_) (fun c1 => ?_)
      · have ei : i = ws.length := by
          have := V.int.inj (of_decide_eq_true c1)
          omega
        have eu : us[i]? = some lst := by rw [ucat, ei, List.getElem?_append_right (Nat.le_refl _), Nat.sub_self]; rfl
        rw [ei, List.take_length] at g0
        rw [g0] at eF
        refine ⟨.ref la, rfl, .int (i : Nat), rfl, la, _, _, _, rfl, rfl, SqL.of gl2, ati eu, rfl, _, rfl, ?_⟩
        refine ite2 (fun c2 => ?_) (fun c2 => ?_)
        · have e2 : lst = [] := SX.S_inj (V.str.inj (of_decide_eq_true c2))
          have e3 : pgF z = none := by rw [eF, e2]; exact if_pos rfl
          have := q _ s02
          unfold pgV at this
          rw [e3] at this
          exact this
        · have e2 : ¬ some lst = some [] := fun y => c2 (decide_eq_true (by rw [Option.some.inj y]))
          have e3 : pgF z = some i := by rw [eF]; exact (if_neg e2).trans (congrArg some (by omega))
          have := q _ s02
          unfold pgV at this
          rw [e3] at this
          exact ⟨.int (i : Nat), rfl, this⟩
      · have ilt : i < ws.length := by
          by_cases c : i = ws.length
          · refine absurd (decide_eq_true (congrArg V.int ?_)) c1
            omega
          · omega
        obtain ⟨u, hwu⟩ : ∃ u, ws[i]? = some u := ⟨_, List.getElem?_eq_getElem ilt⟩
        have eu : us[i]? = some u := by rw [ucat, List.getElem?_append_left ilt]; exact hwu
        have hul := hu u (List.mem_of_getElem? eu)
        have bad : lnOk i (ahd [] (ws.take i)) u = false → ∀ H', Same H H' → Q (.int ((i : Nat) : Int)) H' := fun e H' s' => by
          have q2 := (pgG_step g0 hwu).2 e
          rw [q2] at eF
          have := q H' s'
          unfold pgV at this
          rw [eF] at this
          exact this
        obtain ⟨k1, k2, k3⟩ := kinds_hd u
        obtain ⟨w1, w2⟩ := kinds_len u
        refine ⟨.ref la, rfl, .int (i : Nat), rfl, la, _, _, _, rfl, rfl, SqL.of gl2, ati eu, ⟨_, rfl⟩, S u, _, rfl, rfl, by decide +kernel, by rw [S_len]; exact sz1000 (by omega), fun wl nwl => ?_⟩
        rw [sp_blank]
        have sw := same_new (o := .lst (((kindsOf u).map S).map V.str)) nwl
        have gw : upd H2 wl (.lst (((kindsOf u).map S).map V.str)) wl = some (.lst (((kindsOf u).map S).map V.str)) := upd_same
        generalize upd H2 wl (.lst (((kindsOf u).map S).map V.str)) = H3 at sw gw ⊢
        have s03 := s02.trans sw
        have at0 : atI (((kindsOf u).map S).map V.str) 0 = some (.str (S (nmOf u))) := atI_nat (j := 0) (by rw [List.getElem?_map, List.getElem?_map, k1]; rfl)
        have nl := nm_len u
        have wll := wrO_len u
        refine ⟨.ref wl, rfl, wl, _, 0, _, rfl, rfl, SqL.of gw, at0, nmOf u, rfl, by omega, fun H4 s4 => ⟨_, rfl, ?_⟩⟩
        have s04 := s03.trans s4
        have gw4 := s4 _ _ gw
        refine ite2 (fun d1 => iteT ⟨.int (i : Nat), rfl, bad ?_ _ s04⟩) (fun d1 => ⟨.ref wl, rfl, wl, _, 0, _, rfl, rfl, SqL.of gw4, at0, .str (S (ahd [] (ws.take i))), rfl, _, _, rfl, rfl, _, rfl, ?_⟩)
        · unfold lnOk
          cases e : isNm (nmOf u) with
          | false => rfl
          | true => rw [e] at d1; cases d1
        have d1' : isNm (nmOf u) = true := by
          cases e : isNm (nmOf u) with
          | true => rfl
          | false => rw [e] at d1; exact absurd rfl d1
        refine ite2 (fun d2 => iteT ⟨.int (i : Nat), rfl, bad ?_ _ s04⟩) (fun d2 => ⟨.int (i : Nat), rfl, _, 7, rfl, rfl, _, rfl, ?_⟩)
        · unfold lnOk
          have d2' : ¬ ahd [] (ws.take i) < nmOf u := fun y => by
            rw [show (!decide ((S (ahd [] (ws.take i))).cps.toList < (S (nmOf u)).cps.toList)) = !decide (ahd [] (ws.take i) < nmOf u) from rfl, decide_eq_true y] at d2
            cases d2
          rw [decide_eq_false d2', Bool.false_and, Bool.and_false]
        have d2' : ahd [] (ws.take i) < nmOf u := Decidable.byContradiction fun y => d2 (by
          rw [show (!decide ((S (ahd [] (ws.take i))).cps.toList < (S (nmOf u)).cps.toList)) = !decide (ahd [] (ws.take i) < nmOf u) from rfl, decide_eq_false y]
          rfl)
        refine ite2 (fun d3 => iteT ⟨.int (i : Nat), rfl, bad ?_ _ s04⟩) (fun d3 => ⟨.ref wl, rfl, wl, _, rfl, .inl (SqL.of gw4), _, 2, rfl, rfl, _, rfl, ?_⟩)
        · unfold lnOk
          have d3' : ¬ i < 8 := by have := of_decide_eq_true d3; omega
          rw [decide_eq_false d3', Bool.false_and, Bool.and_false, Bool.and_false]
        have d3' : i < 8 := Decidable.byContradiction fun y => d3 (decide_eq_true (by omega))
        have eok : lnOk i (ahd [] (ws.take i)) u = (okT (wrOf u) && (flaw (rowsT (wrOf u))).isNone) := by
          unfold lnOk
          rw [d1', decide_eq_true d2', decide_eq_true d3', Bool.true_and, Bool.true_and, Bool.true_and]
        rw [List.length_map, List.length_map]
        refine ite2 (fun d4 => ⟨.int (i : Nat), rfl, bad ?_ _ s04⟩) (fun d4 => ?_)
        · have d4' : ¬ 32 ∈ u := fun y => by
            have := of_decide_eq_true d4
            have := k2.mpr y
            omega
          rw [eok, (line_whole d4').2, okT_nil, Bool.false_and]
        have d4' : 32 ∈ u := k2.mp (by
          have : ¬ (((kindsOf u).length : Nat) : Int) < 2 := fun y => d4 (decide_eq_true y)
          omega)
        refine ⟨⟨_, rfl⟩, .ref wl, rfl, 1, rfl, noPart ⟨wl, _, rfl, SqL.of gw4, fun cl ncl => ?_⟩⟩
        have ecut : cutV (((kindsOf u).map S).map V.str) (some 1) none = ((kindsOf (wrOf u)).map S).map V.str := by
          rw [cut_one (K := K) V.str, ← List.map_drop, k3 d4']
        rw [ecut]
        have sc := same_new (o := .lst (((kindsOf (wrOf u)).map S).map V.str)) ncl
        have ej : Txt.join (Str.ofString " ") ((kindsOf (wrOf u)).map S) = S (wrOf u) := by
          rw [st_blank, join_S, kinds_back _ _ (Nat.le_refl _)]
        obtain ⟨v1, v2⟩ := kinds_len (wrOf u)
        refine ⟨_, cl, _, rfl, rfl, .inl (SqL.of upd_same), ?_, ?_⟩
        · rw [SX.lens, List.length_map, show (Str.ofString " " : Str).length = 1 from by decide +kernel]
          have : ∀ (l : List (List Nat)), (∀ p ∈ l, p.length ≤ 150) → (l.map (·.length)).sum ≤ l.length * 150 := by
            intro l
            induction l with
            | nil => intro _; exact Nat.zero_le _
            | cons x l ih =>
              intro h
              have h1 := h x List.mem_cons_self
              have h2 := ih fun p hp => h p (List.mem_cons_of_mem _ hp)
              rw [List.map_cons, List.sum_cons, List.length_cons, Nat.succ_mul]
              omega
          have := this (kindsOf (wrOf u)) (fun p hp => by have := v2 p hp; omega)
          omega
        rw [ej]
        have s05 := s04.trans sc
        refine ⟨wrOf u, rfl, by omega, fun hok H5 p5 s5 => ?_, fun hno H5 s5 => ?_⟩
        · refine ⟨rfl, _, rfl, iteF ?_⟩
          have gw5 := (sc.trans s5) _ _ gw4
          exact ⟨.ref wl, rfl, wl, _, 0, _, rfl, rfl, SqL.of gw5, at0, by omega, s2.trans (sw.trans (s4.trans (sc.trans s5))), (pgG_step g0 hwu).1 (by rw [eok, hok]), some (.int (i : Nat)), some (.ref wl), by
            rw [List.take_add_one, hwu, show (some u).toList = [u] from rfl, ahd_app]
            rfl⟩
        · exact ⟨rfl, _, rfl, iteT ⟨.int (i : Nat), rfl, bad (by rw [eok, hno]) _ (s05.trans s5)⟩⟩
    · obtain ⟨hiw, _⟩ := hI
      rw [Int.toNat_natCast] at hiw
      omega
end
end HL

set_option pp.maxSteps 1500
set_option pp.deepTerms false
namespace HL
open PySem PySem.Spec PyProof.Rows L2
open C8 (pss_cut)
open SX (S S_len S_cat split_S join_S)
theorem fold_rep (c : Nat) : ∀ (n : Nat) (a : Array Nat), ((List.replicate n (#[c] : Array Nat)).foldl (· ++ ·) a).toList = a.toList ++ List.replicate n c
  | 0, a => by simp
  | n + 1, a => by
    rw [List.replicate_succ, List.foldl_cons, fold_rep c n, Array.toList_append, List.replicate_succ, List.append_assoc]
    rfl
/-- a sign, some times -/
theorem op_repC {X : Cx} : OpR X (binaryOp .Mult) (fun x y H Q => ∃ (c n : Nat), x = .str (S [c]) ∧ y = .int (n : Int) ∧ n ≤ 100 ∧ Q (.str (S (List.replicate n c))) H) := by
  intro pins s σ H x y v u Q I rx ry h
  obtain ⟨c, n, rfl, rfl, hn, q⟩ := h
  obtain ⟨t, rfl⟩ := rx
  obtain ⟨t', rfl⟩ := ry
  have l1 : (S [c]).length = 1 := rfl
  refine PySem.P.mul_str ?_ (fun hp _ => ?_) (fun _ _ => ?_) ?_
  · rw [decide_eq_false (by omega), decide_eq_false (by omega)]
    rfl
  · rw [l1]
    have h3 : ((2 : Int) ^ 63 - 1) / ((n : Nat) : Int) ≥ 1 := (Int.le_ediv_iff_mul_le (by omega)).mpr (by omega)
    omega
  · rw [l1, Nat.one_mul, Int.toNat_natCast]
    exact decide_eq_false (by have := sz1000 (n := n) (by omega); omega)
  · by_cases c1 : ((n : Nat) : Int) < 1
    · have e : n = 0 := by omega
      subst e
      rw [if_pos c1]
      exact ⟨by decide, .str _, H, I.tok _, ⟨_, rfl⟩, q⟩
    · rw [if_neg c1]
      by_cases c2 : n = 1
      · subst c2
        rw [if_pos (by rfl)]
        exact ⟨.str _, H, I, ⟨_, rfl⟩, q⟩
      · rw [if_neg (by rw [l1]; simp; omega)]
        have e : (⟨(List.replicate ((n : Nat) : Int).toNat (S [c]).cps).foldl (· ++ ·) #[]⟩ : Str) = S (List.replicate n c) := TL.ext_tl (by
          show ((List.replicate ((n : Nat) : Int).toNat (#[c] : Array Nat)).foldl (· ++ ·) #[]).toList = _
          rw [fold_rep, Int.toNat_natCast]
          rfl)
        rw [e]
        exact ⟨by rw [S_len, List.length_replicate]; exact sz1000 (by omega), .str _, H, I.tok _, ⟨_, rfl⟩, q⟩
theorem cut_sub (z : List Nat) (lo hi : Option Int) : ∃ y : List Nat, cutS (S z) lo hi = S y ∧ y.Sublist z := ⟨_, rfl, (List.take_sublist _ _).trans (List.drop_sublist _ _)⟩
theorem scNms : FnScope ["_law_feed_here", "_law_many", "_law_letters", "_law_stem", "_law_spot", "_law_first", "_law_k"] ["_law_feed_here", "_law_many"] (defScope sNames) := ⟨rfl, rfl, rfl, by decide +kernel, rfl, by decide +kernel, by decide +kernel⟩
/-- a text of small letters, not long -/
def NmS (z : List Nat) : Prop := z.length ≤ 13 ∧ ∀ c ∈ z, c ∈ lets
section
variable {P : Program} {w : World} {K : PySem.W.Frag} {mg : Str → Option Value} {base : Heap}
def spNames : Sp := fun vs H Q _ => ∃ (fe cf : Addr), vs = [.ref fe, .int 5] ∧ FeedAt cf H fe ∧ ∀ H' p (zs : List (List Nat)), Kp fe H H' → FeedAt cf H' fe → H p = none → p ≠ fe → H' p = some (.lst ((zs.map S).map V.str)) → zs.length = 5 → (∀ z ∈ zs, NmS z) → Q (.ref p) H'
theorem ok_names {f : Addr} {fd : FuncData} (F : Fun K "_law_names" "_law_names" sNames f fd) (B : Bl mg) (CD : Cal P w K mg base CX0 1 "_law_draw" ["_law_feed_here", "_law_many"] spDraw) : FnOk P w K mg base CX0 2 f fd ["_law_feed_here", "_law_many"] spNames := by
  obtain ⟨fD, fdD, GD, gD, kD, bD⟩ := CD.ex
  refine F.ok scNms (fun vs H Q E h => ?_) (fun cdv A outer s H vs Q E hr h => ?_)
  · obtain ⟨fe, cf, rfl, _⟩ := h
    rfl
  · obtain ⟨fe, cf, rfl, F0, q⟩ := h
    refine ⟨_, (pss_cons (ps_set (i := 2) scNms.nd rfl (.inr rfl) pe_str)
      (pss_cons (ps_set (i := 3) scNms.nd rfl (.inr rfl) (pe_op op_repC (pe_ix ix_str (pv 2) (pe_call GD (hr.mono (by decide)) (by rfl) gD kD bD .nil pass0 (pa_cons (pv 0) (pa_cons pe_int pa_nil))) (fun _ _ => rfl)) (pe_call GD (hr.mono (by decide)) (by rfl) gD kD bD .nil pass0 (pa_cons (pv 0) (pa_cons pe_int pa_nil)))))
      (pss_cons (ps_set (i := 4) scNms.nd rfl (.inr rfl) (pe_call GD (hr.mono (by decide)) (by rfl) gD kD bD .nil pass0 (pa_cons (pv 0) (pa_cons (pe_op op_add (pe_callB call_len_str (by rfl) B.len PySem.boot_len (pa_cons (pv 3) pa_nil)) pe_int) pa_nil))))
      (pss_cons (ps_set (i := 5) scNms.nd rfl (.inr rfl) (pe_call GD (hr.mono (by decide)) (by rfl) gD kD bD .nil pass0 (pa_cons (pv 0) (pa_cons pe_int pa_nil))))
      (pss_one (ps_ret (pe_lc (own := [("_law_k", 6)]) (g := gName 6) (tt := tYes) rfl scNms.nd (pi_range1 (by rfl) B.range (pa_cons (pv 1) pa_nil))
        (blkOk_by (own := [("_law_k", 6)]) (N := ["_law_feed_here", "_law_many", "_law_letters", "_law_stem", "_law_spot", "_law_first", "_law_k"]) (sc := defScope sNames) (by decide +kernel)) (fun _ _ _ _ _ => pg_name (i := 6) scNms.nd rfl (Or.inl rfl)) (fun _ _ _ _ _ => pts_nil)
        (fun _ _ _ _ _ => (pe_op op_add_str (pe_op op_add_str (pe_slice sl_str (pv 3) po_none (po_some (pv 4))) (pe_ix (r := rIxS) ix_str (pv 2) (pe_op op_mod (pe_op op_add (pv 5) (pe_op op_mul pe_int (pv 6))) pe_int) (fun _ _ => rfl))) (pe_slice sl_str (pv 3) (po_some (pv 4)) po_none)))))))))), ?_⟩
    have lat : ∀ {i : Int}, 0 ≤ i → i < 26 → ∃ c, atI (Str.ofString "abcdefghijklmnopqrstuvwxyz").cps.toList i = some c ∧ c ∈ lets := fun {i} h0 h1 => by
      obtain ⟨k, rfl⟩ : ∃ k : Nat, i = (k : Int) := ⟨i.toNat, by omega⟩
      have hk : k < lets.length := by show k < 26; omega
      refine ⟨lets[k], ?_, List.getElem_mem hk⟩
      rw [st_lets]
      exact atI_nat (List.getElem?_eq_getElem hk)
    have llen : (Str.ofString "abcdefghijklmnopqrstuvwxyz").length ≤ sizeLine := by rw [st_lets]; decide
    refine ⟨.str "abcdefghijklmnopqrstuvwxyz", rfl, .ref fe, rfl, fe, cf, 26, rfl, by decide, by decide, F0, fun d1 H1 a0 a1 k1 F1 => ?_⟩
    obtain ⟨c1, hc1, hm1⟩ := lat a0 a1
    refine ⟨_, d1, c1, rfl, rfl, llen, hc1, .ref fe, rfl, fe, cf, 7, rfl, by decide, by decide, F1, fun d2 H2 b0 b1 k2 F2 => ?_⟩
    obtain ⟨n, rfl⟩ : ∃ k : Nat, d2 = (k : Int) := ⟨d2.toNat, by omega⟩
    refine ⟨c1, n, rfl, rfl, by omega, ?_⟩
    have zl : (List.replicate n c1).length ≤ 6 := by rw [List.length_replicate]; omega
    have zm : ∀ c ∈ List.replicate n c1, c ∈ lets := fun c hc => by rw [(List.mem_replicate.mp hc).2]; exact hm1
    generalize List.replicate n c1 = st at zl zm ⊢
    refine ⟨.ref fe, rfl, .str (S st), rfl, S st, rfl, by rw [S_len]; exact sz1000 (by omega), _, 1, rfl, rfl, fe, cf, _, rfl, by omega, by rw [S_len]; omega, F2, fun sp H3 e0 e1 k3 F3 => ?_⟩
    refine ⟨.ref fe, rfl, fe, cf, 26, rfl, by decide, by decide, F3, fun fi H4 f0 f1 k4 F4 => ?_⟩
    have k04 := ((k1.trans k2).trans k3).trans k4
    refine ⟨.int 5, rfl, 5, rfl, by decide, by decide, fun D nD => ?_⟩
    have nDf := F4.ne nD
    refine lc_range (lo := 0) (n := 5) (fun i H' => Same H4 H' ∧ ∃ zs : List (List Nat), H' D = some (.lst ((zs.map S).map V.str)) ∧ zs.length = i ∧ ∀ z ∈ zs, NmS z) ⟨same_new nD, [], upd_same, rfl, fun z hz => by cases hz⟩ (fun i H' hi ⟨sm, zs, hD, hl, hz⟩ => ?_) (fun H' ⟨sm, zs, hD, hl, hz⟩ => ?_)
    · refine ⟨rfl, yes (iteT ?_)⟩
      obtain ⟨y1, ey1, sy1⟩ := cut_sub st none (some sp)
      obtain ⟨y2, ey2, sy2⟩ := cut_sub st (some sp) none
      have m0 := Int.emod_nonneg (fi + 5 * (0 + (i : Nat))) (show (26 : Int) ≠ 0 by decide)
      have m1 := Int.emod_lt_of_pos (fi + 5 * (0 + (i : Nat))) (show (0 : Int) < 26 by decide)
      obtain ⟨c2, hc2, hm2⟩ := lat m0 m1
      have l1 := sy1.length_le
      have l2 := sy2.length_le
      have hsl : (S st).length ≤ sizeLine := by rw [S_len]; exact sz1000 (by omega)
      have o1 : ∀ (x y : Str), (x ++ y).length = x.length + y.length := fun x y => by
        show (x.cps ++ y.cps).size = _
        rw [Array.size_append]
        rfl
      have q1 : (cutS (S st) none (some sp)).length = y1.length := by rw [ey1, S_len]
      have q2 : (cutS (S st) (some sp) none).length = y2.length := by rw [ey2, S_len]
      have q3 : ∀ c : Nat, ({ cps := #[c] } : Str).length = 1 := fun c => rfl
      refine ⟨.str (S st), rfl, .int sp, rfl, sp, rfl, S st, rfl, hsl, .str "abcdefghijklmnopqrstuvwxyz", rfl, .int fi, rfl, .int (0 + (i : Nat)), rfl, _, _, rfl, rfl, .inl ⟨by decide, by decide⟩, _, _, rfl, rfl, _, _, rfl, rfl, (by show (0 : Int) < 26; decide), _, _, c2, rfl, rfl, llen, hc2, _, _, rfl, rfl, ?_, .str (S st), rfl, .int sp, rfl, sp, rfl, noPart ⟨S st, rfl, hsl, _, _, rfl, rfl, ?_, _, hD, ?_, same_late sm nD, zs ++ [y1 ++ [c2] ++ y2], ?_, by rw [List.length_append, hl]; rfl, fun z hz' => ?_⟩⟩
      · rw [q1, q3]; exact sz1000 (by omega)
      · rw [o1, q1, q2, q3]; exact sz1000 (by omega)
      · rw [List.length_map, List.length_map]; exact small1000 (by omega)
      · rw [upd_same, ey1, ey2, List.map_append, List.map_append, show ({ cps := #[c2] } : Str) = S [c2] from rfl, S_cat, S_cat]
        rfl
      · rcases List.mem_append.mp hz' with hz' | hz'
        · exact hz z hz'
        · rw [List.mem_singleton.mp hz']
          refine ⟨by rw [List.length_append, List.length_append, List.length_singleton]; omega, fun c hc => ?_⟩
          rcases List.mem_append.mp hc with hc | hc
          · rcases List.mem_append.mp hc with hc | hc
            · exact zm c (sy1.subset hc)
            · rw [List.mem_singleton.mp hc]; exact hm2
          · exact zm c (sy2.subset hc)
    · refine q H' D zs (k04.trans (Same.kp sm)) (F4.same sm) (k04.free nDf nD) nDf hD hl hz
end
end HL

set_option pp.maxSteps 3000
namespace HL
open PySem PySem.Spec PyProof.Rows L2
open C8 (pss_cut)
open SX (S S_len S_cat split_S join_S)
abbrev NB : List Str := ["_law_feed_here", "_law_lines", "_law_at", "_law_to", "_law_how", "_law_some", "_law_odd", "_law_spot", "_law_sign", "_law_line", "_law_fresh"]
theorem scBn : FnScope NB ["_law_feed_here", "_law_lines"] (defScope sBent) := ⟨rfl, rfl, rfl, by decide +kernel, rfl, by decide +kernel, by decide +kernel⟩
def tx (zs : List (List Nat)) : List V := (zs.map S).map V.str
def LnS (z : List Nat) : Prop := z.length ≤ 100 ∧ 10 ∉ z
theorem tx_len (zs : List (List Nat)) : (tx zs).length = zs.length := by unfold tx; rw [List.length_map, List.length_map]
theorem tx_app (xs ys : List (List Nat)) : tx xs ++ tx ys = tx (xs ++ ys) := by unfold tx; rw [List.map_append, List.map_append]
/-- some of these lines, no more of them -/
structure Sm (ys zs : List (List Nat)) : Prop where
  l : ys.length ≤ zs.length
  m : ∀ y ∈ ys, y ∈ zs
theorem cut_tx (zs : List (List Nat)) (lo hi : Option Int) : ∃ ys, cutV (tx zs) lo hi = tx ys ∧ Sm ys zs := by
  obtain ⟨n, m, e⟩ := cut_ex zs.length lo hi
  have e' : cutV (tx zs) lo hi = tx ((zs.drop n).take m) := by
    have := e (fun u => V.str (S u)) zs rfl
    unfold tx
    rw [List.map_map, List.map_map]
    exact this
  exact ⟨_, e', len_cut _ _ _, fun y hy => mem_cut hy⟩
theorem sl_tx {K : PySem.W.Frag} {H : Hp} {p : Addr} {zs : List (List Nat)} {lo hi : Option Int} {Q : VK} (h : H p = some (.lst (tx zs))) (q : ∀ l ys, Sm ys zs → H l = none → Q (.ref l) (upd H l (.lst (tx ys)))) : rSlL K (.ref p) lo hi H Q := by
  obtain ⟨ys, e, s⟩ := cut_tx zs lo hi
  refine ⟨p, _, rfl, SqL.of h, fun l nl => ?_⟩
  rw [e]
  exact q l ys s nl
theorem cat_tx {H : Hp} {a b : Addr} {xs ys : List (List Nat)} {Q : VK} (ha : H a = some (.lst (tx xs))) (hb : H b = some (.lst (tx ys))) (hz : xs.length + ys.length ≤ 1000) (q : ∀ l, H l = none → Q (.ref l) (upd H l (.lst (tx (xs ++ ys))))) : rCat (.ref a) (.ref b) H Q := by
  refine ⟨a, b, _, _, rfl, rfl, ha, hb, by rw [tx_len, tx_len]; exact sz1000 hz, fun l nl => ?_⟩
  rw [tx_app]
  exact q l nl
theorem one_tx (z : List Nat) : [V.str (S z)] = tx [z] := rfl
section
variable {P : Program} {w : World} {K : PySem.W.Frag} {mg : Str → Option Value} {base : Heap}
def spBent : Sp := fun vs H Q _ => ∃ (fe cf p : Addr) (zs : List (List Nat)), vs = [.ref fe, .ref p] ∧ FeedAt cf H fe ∧ H p = some (.lst (tx zs)) ∧ p ≠ fe ∧ zs.length ≤ 5 ∧ (∀ z ∈ zs, z.length ≤ 49 ∧ 10 ∉ z) ∧
  ∀ H' p' (ys : List (List Nat)), Kp fe H H' → FeedAt cf H' fe → p' ≠ fe → H' p' = some (.lst (tx ys)) → ys.length ≤ 20 → (∀ y ∈ ys, LnS y) → Q (.ref p') H'
theorem ok_bent {f : Addr} {fd : FuncData} (F : Fun K "_law_bent" "_law_bent" sBent f fd) (B : Bl mg) (CD : Cal P w K mg base CX0 1 "_law_draw" ["_law_feed_here", "_law_many"] spDraw) (CP : Cal P w K mg base CX0 2 "_law_pick" ["_law_feed_here", "_law_row"] spPick) : FnOk P w K mg base CX0 3 f fd ["_law_feed_here", "_law_lines"] spBent := by
  obtain ⟨fD, fdD, GD, gD, kD, bD⟩ := CD.ex
  obtain ⟨fP, fdP, GP, gP, kP, bP⟩ := CP.ex
  refine F.ok scBn (fun vs H Q E h => ?_) (fun cdv A outer s H vs Q E hr h => ?_)
  · obtain ⟨fe, cf, p, zs, rfl, _⟩ := h
    rfl
  · obtain ⟨fe, cf, p, zs, rfl, F0, hp, npf, h5, hg, q⟩ := h
    refine ⟨_, (pss_cons (ps_par (i := 2) (j := 3) (by rfl) scBn.nd rfl rfl (by decide) rfl rfl (pa_cons (pe_call GD (hr.mono (by decide)) (by rfl) gD kD bD .nil pass0 (pa_cons (pv 0) (pa_cons (pe_op op_add (pe_callB call_len_seq (by rfl) B.len PySem.boot_len (pa_cons (pv 1) pa_nil)) pe_int) pa_nil))) (pa_cons (pe_call GD (hr.mono (by decide)) (by rfl) gD kD bD .nil pass0 (pa_cons (pv 0) (pa_cons (pe_op op_add (pe_callB call_len_seq (by rfl) B.len PySem.boot_len (pa_cons (pv 1) pa_nil)) pe_int) pa_nil))) pa_nil)) (by rfl))
      (pss_cons (ps_set (i := 4) scBn.nd rfl (.inl rfl) (pe_call GD (hr.mono (by decide)) (by rfl) gD kD bD .nil pass0 (pa_cons (pv 0) (pa_cons pe_int pa_nil))))
      (pss_cons (ps_set (i := 5) scBn.nd rfl (.inl rfl) (pe_lst (pa_cons pe_str (pa_cons pe_str (pa_cons pe_str (pa_cons pe_str (pa_cons pe_str (pa_cons pe_str (pa_cons pe_str pa_nil)))))))))
      (pss_cons (ps_set (i := 6) scBn.nd rfl (.inl rfl) (pe_call GP (hr.mono (by decide)) (by rfl) gP kP bP .nil pass0 (pa_cons (pv 0) (pa_cons (pe_op op_cat (pv 5) (pe_lst (pa_cons pe_str (pa_cons pe_str (pa_cons pe_str (pa_cons pe_str pa_nil)))))) pa_nil))))
      (pss_cons (ps_if (pt_cmpR op_eq (pv 4) pe_int (nomark _)) (pss_one (ps_ret (pe_op op_cat (pe_op op_cat (pe_slice sl_list (pv 1) po_none (po_some (pv 2))) (pe_lst (pa_cons (pv 6) pa_nil))) (pe_slice sl_list (pv 1) (po_some (pv 2)) po_none)))) pss_nil)
      (pss_cons (ps_if (pt_cmpR op_eq (pv 4) pe_int (nomark _)) (pss_one (ps_ret (pe_op op_cat (pe_slice sl_list (pv 1) po_none (po_some (pv 2))) (pe_slice sl_list (pv 1) (po_some (pe_op op_add (pv 2) pe_int)) po_none)))) pss_nil)
      (pss_cons (ps_if (pt_cmpR op_eq (pv 4) pe_int (nomark _)) (pss_one (ps_ret (pe_op op_cat (pe_op op_cat (pe_slice sl_list (pv 1) po_none (po_some (pv 2))) (pe_slice sl_list (pv 1) (po_some (pv 2)) (po_some (pe_op op_add (pv 2) pe_int)))) (pe_slice sl_list (pv 1) (po_some (pv 2)) po_none)))) pss_nil)
      (pss_cons (ps_if (pt_cmpR op_eq (pv 4) pe_int (nomark _)) (pss_one (ps_ret (pe_op op_cat (pe_op op_cat (pe_slice sl_list (pv 1) po_none (po_some (pv 2))) (pe_revL (pe_slice sl_list (pv 1) (po_some (pv 2)) (po_some (pe_op op_add (pv 2) pe_int))))) (pe_slice sl_list (pv 1) (po_some (pe_op op_add (pv 2) pe_int)) po_none)))) pss_nil)
      (pss_cons (ps_if (PW.pt (pw_and (pt_cmpR op_eq (pv 4) pe_int (nomark _)) (pw_and1 (pt_cmpR op_lt (pv 2) (pe_callB call_len_seq (by rfl) B.len PySem.boot_len (pa_cons (pv 1) pa_nil)) (nomark _))))) (pss_cons (ps_set (i := 7) scBn.nd rfl (.inl rfl) (pe_call GD (hr.mono (by decide)) (by rfl) gD kD bD .nil pass0 (pa_cons (pv 0) (pa_cons (pe_op op_add (pe_callB call_len_str (by rfl) B.len PySem.boot_len (pa_cons (pe_ix ix_list (pv 1) (pv 2) (fun _ _ => rfl)) pa_nil)) pe_int) pa_nil))))
      (pss_cons (ps_set (i := 8) scBn.nd rfl (.inl rfl) (pe_call GP (hr.mono (by decide)) (by rfl) gP kP bP .nil pass0 (pa_cons (pv 0) (pa_cons (pe_lst (pa_cons pe_str (pa_cons pe_str (pa_cons pe_str (pa_cons pe_str (pa_cons pe_str (pa_cons pe_str (pa_cons pe_str pa_nil)))))))) pa_nil))))
      (pss_cons (ps_set (i := 9) scBn.nd rfl (.inl rfl) (pe_ix ix_list (pv 1) (pv 2) (fun _ _ => rfl)))
      (pss_cons (ps_set (i := 10) scBn.nd rfl (.inl rfl) (pe_op op_add_str (pe_op op_add_str (pe_slice sl_str (pv 9) po_none (po_some (pv 7))) (pv 8)) (pe_slice sl_str (pv 9) (po_some (pv 7)) po_none)))
      (pss_one (ps_ret (pe_op op_cat (pe_op op_cat (pe_slice sl_list (pv 1) po_none (po_some (pv 2))) (pe_lst (pa_cons (pv 10) pa_nil))) (pe_slice sl_list (pv 1) (po_some (pe_op op_add (pv 2) pe_int)) po_none)))))))) pss_nil)
      (pss_cons (ps_if (pt_cmpR op_eq (pv 4) pe_int (nomark _)) (pss_one (ps_ret (pe_op op_cat (pe_lc (own := [("_law_sign", 8)]) (g := gName 8) (tt := tYes) rfl scBn.nd (pi_str pe_str)
        (blkOk_by (own := [("_law_sign", 8)]) (N := ["_law_feed_here", "_law_lines", "_law_at", "_law_to", "_law_how", "_law_some", "_law_odd", "_law_spot", "_law_sign", "_law_line", "_law_fresh"]) (sc := defScope sBent) (by decide +kernel)) (fun _ _ _ _ _ => pg_name (i := 8) scBn.nd rfl (Or.inl rfl)) (fun _ _ _ _ _ => pts_nil)
        (fun _ _ _ _ _ => (pe_op op_add_str (pe_op op_repC (pv 8) pe_int) pe_str))) (pe_slice sl_list (pv 1) po_none (po_some (pv 3)))))) pss_nil)
      (pss_one (ps_ret (pv 1))))))))))))), ?_⟩
    have lens : ∀ {H' : Hp}, H' p = some (.lst (tx zs)) → True := fun _ => True.intro
    refine ⟨.ref fe, rfl, .ref p, rfl, p, _, rfl, .inl (SqL.of hp), _, 1, rfl, rfl, fe, cf, _, rfl, by rw [tx_len]; omega, by rw [tx_len]; omega, F0, fun at_ H1 a0 a1 k1 F1 => ?_⟩
    rw [tx_len] at a1
    have hp1 := k1 _ _ npf hp
    refine ⟨.ref fe, rfl, .ref p, rfl, p, _, rfl, .inl (SqL.of hp1), _, 1, rfl, rfl, fe, cf, _, rfl, by rw [tx_len]; omega, by rw [tx_len]; omega, F1, fun to_ H2 b0 b1 k2 F2 => ⟨_, _, rfl, ?_⟩⟩
    have hp2 := k2 _ _ npf hp1
    refine ⟨.ref fe, rfl, fe, cf, 9, rfl, by decide, by decide, F2, fun how H3 c0 c1 k3 F3 => ?_⟩
    have hp3 := k3 _ _ npf hp2
    refine ⟨(by show 7 ≤ sizeLine; decide), fun so nso => ?_⟩
    have s4 := fun o => same_new (o := o) nso
    refine ⟨.ref fe, rfl, .ref so, rfl, (by show 4 ≤ sizeLine; decide), fun mo nmo => ?_⟩
    have s5 := fun o => same_new (o := o) nmo
    refine ⟨so, mo, _, _, rfl, rfl, s5 _ _ _ upd_same, upd_same, (by show 11 ≤ sizeLine; decide), fun co nco => ?_⟩
    have s6 := fun o => same_new (o := o) nco
    have s36 := fun o => ((s4 _).trans (s5 _)).trans (s6 o)
    refine ⟨fe, cf, co, _, rfl, upd_same, ((F3.same (s4 _)).same (s5 _)).ne nco, by decide, by decide, F3.same (s36 _), fun v H5 hv k5 F5 => ?_⟩
    have hp5 := k5 _ _ npf (s36 _ _ _ hp3)
    have k05 := (((k1.trans k2).trans k3).trans (Same.kp (s36 _))).trans k5
    obtain ⟨zo, rfl, lo15, no10⟩ : ∃ zo, v = .str (S zo) ∧ zo.length ≤ 15 ∧ 10 ∉ zo := by
      have key : ∀ x : Str, (decide (x.cps.toList.length ≤ 15) && !(x.cps.toList.contains 10)) = true → ∃ zo, V.str x = .str (S zo) ∧ zo.length ≤ 15 ∧ 10 ∉ zo := fun x h => by
        rw [Bool.and_eq_true] at h
        refine ⟨x.cps.toList, by rw [SX.S_tl], of_decide_eq_true h.1, fun hm => ?_⟩
        have := h.2
        rw [List.contains_iff_mem.mpr hm] at this
        cases this
      simp only [List.mem_append, List.mem_cons, List.mem_nil_iff, or_false] at hv
      rcases hv with (h | h | h | h | h | h | h) | h | h | h | h <;> (rw [h]; exact key _ (by decide +kernel))
    clear hp1 hp2 hp3 F1 F2 F3 k1 k2 k3 k5 s36
    generalize H5 = H5 at *
    have lnz : ∀ z ∈ zs, LnS z := fun z hz => ⟨by have := (hg z hz).1; omega, (hg z hz).2⟩
    have lno : LnS zo := ⟨by omega, no10⟩
    have fin : ∀ {H6 : Hp} {l : Addr} {ys : List (List Nat)}, Same H5 H6 → H5 l = none → H6 l = some (.lst (tx ys)) → ys.length ≤ 20 → (∀ y ∈ ys, LnS y) → Q (.ref l) H6 := fun s n h h1 h2 => q _ _ _ (k05.trans (Same.kp s)) (F5.same s) (F5.ne n) h h1 h2
    have all3 : ∀ {a b c : List (List Nat)}, (∀ y ∈ a, LnS y) → (∀ y ∈ b, LnS y) → (∀ y ∈ c, LnS y) → ∀ y ∈ a ++ b ++ c, LnS y := fun ha hb hc y hy => by
      rcases List.mem_append.mp hy with hy | hy
      · rcases List.mem_append.mp hy with hy | hy
        · exact ha y hy
        · exact hb y hy
      · exact hc y hy
    have sub : ∀ {ys : List (List Nat)}, Sm ys zs → ∀ y ∈ ys, LnS y := fun m y hy => lnz y (m.m y hy)
    refine ⟨.int how, rfl, rfl, _, rfl, ite2 (fun _ => ?_) (fun _ => ?_)⟩
    · refine ⟨.ref p, rfl, .int at_, rfl, at_, rfl, sl_tx hp5 fun l1 y1 m1 n1 => ?_⟩
      have t1 := same_new (o := .lst (tx y1)) n1
      refine ⟨.str (S zo), rfl, sz_1 _, fun l2 n2 => cat_tx (ys := [zo]) (same_new n2 _ _ upd_same) upd_same (by have := m1.l; show y1.length + 1 ≤ 1000; omega) fun l3 n3 => ?_⟩
      have t2 := t1.trans ((same_new (o := .lst [V.str (S zo)]) n2).trans (same_new (o := .lst (tx (y1 ++ [zo]))) n3))
      refine ⟨.ref p, rfl, .int at_, rfl, at_, rfl, noPart (sl_tx (t2 _ _ hp5) fun l4 y4 m4 n4 => cat_tx (same_new n4 _ _ upd_same) upd_same (by have := m1.l; have := m4.l; rw [List.length_append, List.length_singleton]; omega) fun l5 n5 => ?_)⟩
      have t3 := t2.trans ((same_new (o := .lst (tx y4)) n4).trans (same_new (o := .lst (tx (y1 ++ [zo] ++ y4))) n5))
      refine fin t3 ((t2.trans (same_new n4)).free n5) upd_same (by have := m1.l; have := m4.l; rw [List.length_append, List.length_append, List.length_singleton]; omega) (all3 (sub m1) (fun y hy => by rw [List.mem_singleton.mp hy]; exact lno) (sub m4))
    refine ⟨.int how, rfl, rfl, _, rfl, ite2 (fun _ => ?_) (fun _ => ?_)⟩
    · refine ⟨.ref p, rfl, .int at_, rfl, at_, rfl, sl_tx hp5 fun l1 y1 m1 n1 => ?_⟩
      have t1 := same_new (o := .lst (tx y1)) n1
      refine ⟨.ref p, rfl, .int at_, rfl, at_, 1, rfl, rfl, at_ + 1, rfl, noPart (sl_tx (t1 _ _ hp5) fun l4 y4 m4 n4 => cat_tx (same_new n4 _ _ upd_same) upd_same (by have := m1.l; have := m4.l; omega) fun l5 n5 => ?_)⟩
      have t3 := t1.trans ((same_new (o := .lst (tx y4)) n4).trans (same_new (o := .lst (tx (y1 ++ y4))) n5))
      refine fin t3 ((t1.trans (same_new n4)).free n5) upd_same (by have := m1.l; have := m4.l; rw [List.length_append]; omega) fun y hy => ?_
      rcases List.mem_append.mp hy with hy | hy
      · exact sub m1 y hy
      · exact sub m4 y hy
    refine ⟨.int how, rfl, rfl, _, rfl, ite2 (fun _ => ?_) (fun _ => ?_)⟩
    · refine ⟨.ref p, rfl, .int at_, rfl, at_, rfl, sl_tx hp5 fun l1 y1 m1 n1 => ?_⟩
      have t1 := same_new (o := .lst (tx y1)) n1
      refine ⟨.ref p, rfl, .int at_, rfl, at_, rfl, .int at_, rfl, at_, 1, rfl, rfl, at_ + 1, rfl, sl_tx (t1 _ _ hp5) fun l2 y2 m2 n2 => cat_tx (same_new n2 _ _ upd_same) upd_same (by have := m1.l; have := m2.l; omega) fun l3 n3 => ?_⟩
      have t2 := t1.trans ((same_new (o := .lst (tx y2)) n2).trans (same_new (o := .lst (tx (y1 ++ y2))) n3))
      refine ⟨.ref p, rfl, .int at_, rfl, at_, rfl, noPart (sl_tx (t2 _ _ hp5) fun l4 y4 m4 n4 => cat_tx (same_new n4 _ _ upd_same) upd_same (by have := m1.l; have := m2.l; have := m4.l; rw [List.length_append]; omega) fun l5 n5 => ?_)⟩
      have t3 := t2.trans ((same_new (o := .lst (tx y4)) n4).trans (same_new (o := .lst (tx (y1 ++ y2 ++ y4))) n5))
      exact fin t3 ((t2.trans (same_new n4)).free n5) upd_same (by have := m1.l; have := m2.l; have := m4.l; rw [List.length_append, List.length_append]; omega) (all3 (sub m1) (sub m2) (sub m4))
    refine ⟨.int how, rfl, rfl, _, rfl, ite2 (fun _ => ?_) (fun _ => ?_)⟩
    · refine ⟨.ref p, rfl, .int at_, rfl, at_, rfl, sl_tx hp5 fun l1 y1 m1 n1 => ?_⟩
      have t1 := same_new (o := .lst (tx y1)) n1
      refine ⟨.ref p, rfl, .int at_, rfl, at_, rfl, .int at_, rfl, at_, 2, rfl, rfl, at_ + 2, rfl, sl_tx (t1 _ _ hp5) fun l2 y2 m2 n2 => ?_⟩
      refine ⟨l2, _, rfl, SqL.of upd_same, fun l2r n2r => ?_⟩
      have erev : (tx y2).reverse = tx y2.reverse := by unfold tx; rw [List.map_reverse, List.map_reverse]
      rw [erev]
      have t1b := t1.trans (same_new (o := .lst (tx y2)) n2)
      refine cat_tx ((same_new n2r) _ _ (same_new n2 _ _ upd_same)) upd_same (by have := m1.l; have := m2.l; rw [List.length_reverse]; omega) fun l3 n3 => ?_
      have t2 := t1b.trans ((same_new (o := .lst (tx y2.reverse)) n2r).trans (same_new (o := .lst (tx (y1 ++ y2.reverse))) n3))
      refine ⟨.ref p, rfl, .int at_, rfl, at_, 2, rfl, rfl, at_ + 2, rfl, noPart (sl_tx (t2 _ _ hp5) fun l4 y4 m4 n4 => cat_tx (same_new n4 _ _ upd_same) upd_same (by have := m1.l; have := m2.l; have := m4.l; rw [List.length_append, List.length_reverse]; omega) fun l5 n5 => ?_)⟩
      have t3 := t2.trans ((same_new (o := .lst (tx y4)) n4).trans (same_new (o := .lst (tx (y1 ++ y2.reverse ++ y4))) n5))
      exact fin t3 ((t2.trans (same_new n4)).free n5) upd_same (by have := m1.l; have := m2.l; have := m4.l; rw [List.length_append, List.length_append, List.length_reverse]; omega) (all3 (sub m1) (fun y hy => sub m2 y (List.mem_reverse.mp hy)) (sub m4))
    have last : Q (.ref p) H5 := q H5 p zs k05 F5 npf hp5 (by omega) lnz
    refine ⟨.int how, rfl, rfl, _, rfl, ite2 (fun _ => ⟨.int at_, rfl, .ref p, rfl, p, _, rfl, .inl (SqL.of hp5), _, _, rfl, rfl, _, rfl, ite2 (fun cl => ?_) (fun _ => ⟨.int how, rfl, rfl, _, rfl, ite2 (fun _ => ?_) (fun _ => ⟨.ref p, rfl, last⟩)⟩)⟩) (fun _ => ⟨.int how, rfl, rfl, _, rfl, ite2 (fun _ => ?_) (fun _ => ⟨.ref p, rfl, last⟩)⟩)⟩
    · -- a line bent at a sign
      have cl' : at_ < (zs.length : Nat) := by
        have := of_decide_eq_true cl
        rw [tx_len] at this
        exact this
      obtain ⟨ia, rfl⟩ : ∃ k : Nat, at_ = (k : Int) := ⟨at_.toNat, by omega⟩
      obtain ⟨zc, hzc⟩ : ∃ c, zs[ia]? = some c := ⟨_, List.getElem?_eq_getElem (by omega)⟩
      obtain ⟨g1, g2⟩ := hg zc (List.mem_of_getElem? hzc)
      have atc : atI (tx zs) ((ia : Nat) : Int) = some (.str (S zc)) := atI_nat (by unfold tx; rw [List.getElem?_map, List.getElem?_map, hzc]; rfl)
      have hsl : (S zc).length ≤ sizeLine := by rw [S_len]; exact sz1000 (by omega)
      refine ⟨.ref fe, rfl, .ref p, rfl, .int (ia : Nat), rfl, p, _, _, _, rfl, rfl, SqL.of hp5, atc, S zc, rfl, hsl, _, 1, rfl, rfl, fe, cf, _, rfl, by omega, by rw [S_len]; omega, F5, fun sp H6 s0 s1 k6 F6 => ?_⟩
      have hp6 := k6 _ _ npf hp5
      refine ⟨.ref fe, rfl, (by show 7 ≤ sizeLine; decide), fun sl nsl => ?_⟩
      have sn := fun o => same_new (o := o) nsl
      refine ⟨fe, cf, sl, _, rfl, upd_same, F6.ne nsl, by decide, by decide, F6.same (sn _), fun v H7 hv k7 F7 => ?_⟩
      have hp7 := k7 _ _ npf (sn _ _ _ hp6)
      have k57 := (k6.trans (Same.kp (sn _))).trans k7
      obtain ⟨sg, rfl, lg, ng⟩ : ∃ sg, v = .str (S sg) ∧ sg.length ≤ 1 ∧ 10 ∉ sg := by
        have key : ∀ x : Str, (decide (x.cps.toList.length ≤ 1) && !(x.cps.toList.contains 10)) = true → ∃ zo, V.str x = .str (S zo) ∧ zo.length ≤ 1 ∧ 10 ∉ zo := fun x h => by
          rw [Bool.and_eq_true] at h
          refine ⟨x.cps.toList, by rw [SX.S_tl], of_decide_eq_true h.1, fun hm => ?_⟩
          have := h.2
          rw [List.contains_iff_mem.mpr hm] at this
          cases this
        simp only [List.mem_cons, List.mem_nil_iff, or_false] at hv
        rcases hv with h | h | h | h | h | h | h <;> (rw [h]; exact key _ (by decide +kernel))
      obtain ⟨w1, ew1, sw1⟩ := cut_sub zc none (some sp)
      obtain ⟨w2, ew2, sw2⟩ := cut_sub zc (some sp) none
      have q1 : (cutS (S zc) none (some sp)).length = w1.length := by rw [ew1, S_len]
      have q2 : (cutS (S zc) (some sp) none).length = w2.length := by rw [ew2, S_len]
      have l1 := sw1.length_le
      have l2 := sw2.length_le
      have o1 : ∀ (x y : Str), (x ++ y).length = x.length + y.length := fun x y => by
        show (x.cps ++ y.cps).size = _
        rw [Array.size_append]
        rfl
      refine ⟨.ref p, rfl, .int (ia : Nat), rfl, p, _, _, _, rfl, rfl, SqL.of hp7, atc, ?_⟩
      refine ⟨.str (S zc), rfl, .int sp, rfl, sp, rfl, S zc, rfl, hsl, .str (S sg), rfl, _, _, rfl, rfl, (by rw [q1, S_len]; exact sz1000 (by omega)), .str (S zc), rfl, .int sp, rfl, sp, rfl, noPart ⟨S zc, rfl, hsl, _, _, rfl, rfl, (by rw [o1, q1, q2, S_len]; exact sz1000 (by omega)), ?_⟩⟩
      rw [ew1, ew2, S_cat, S_cat]
      have lfr : LnS (w1 ++ sg ++ w2) := ⟨by rw [List.length_append, List.length_append]; omega, fun hm => by
        rcases List.mem_append.mp hm with hm | hm
        · rcases List.mem_append.mp hm with hm | hm
          · exact g2 (sw1.subset hm)
          · exact ng hm
        · exact g2 (sw2.subset hm)⟩
      generalize w1 ++ sg ++ w2 = fr at lfr ⊢
      refine ⟨.ref p, rfl, .int (ia : Nat), rfl, (ia : Nat), rfl, sl_tx hp7 fun l1 y1 m1 n1 => ?_⟩
      have t1 := same_new (o := .lst (tx y1)) n1
      refine ⟨.str (S fr), rfl, sz_1 _, fun l2 n2 => cat_tx (ys := [fr]) (same_new n2 _ _ upd_same) upd_same (by have := m1.l; show y1.length + 1 ≤ 1000; omega) fun l3 n3 => ?_⟩
      have t2 := t1.trans ((same_new (o := .lst [V.str (S fr)]) n2).trans (same_new (o := .lst (tx (y1 ++ [fr]))) n3))
      refine ⟨.ref p, rfl, .int (ia : Nat), rfl, (ia : Nat), 1, rfl, rfl, (ia : Int) + 1, rfl, noPart (sl_tx (t2 _ _ hp7) fun l4 y4 m4 n4 => cat_tx (same_new n4 _ _ upd_same) upd_same (by have := m1.l; have := m4.l; rw [List.length_append, List.length_singleton]; omega) fun l5 n5 => ?_)⟩
      have t3 := t2.trans ((same_new (o := .lst (tx y4)) n4).trans (same_new (o := .lst (tx (y1 ++ [fr] ++ y4))) n5))
      have nl := (t2.trans (same_new n4)).free n5
      refine q _ _ _ ((k05.trans k57).trans (Same.kp t3)) (F7.same t3) (F7.ne nl) upd_same (by have := m1.l; have := m4.l; rw [List.length_append, List.length_append, List.length_singleton]; omega) (all3 (sub m1) (fun y hy => by rw [List.mem_singleton.mp hy]; exact lfr) (sub m4))
    · -- eight lines more
      refine ⟨Str.ofString "abcdefgh", rfl, fun D nD => ?_⟩
      have e8 : (Str.ofString "abcdefgh" : Str) = S [97, 98, 99, 100, 101, 102, 103, 104] := TL.ext_tl (by rw [TL.tl_ofString]; rfl)
      have e11 : (Str.ofString " 1,1" : Str) = S [32, 49, 44, 49] := TL.ext_tl (by rw [TL.tl_ofString]; rfl)
      refine lc_it walk_str (fun i H' => Same H5 H' ∧ H' D = some (.lst (tx ((([97, 98, 99, 100, 101, 102, 103, 104] : List Nat).take i).map fun c => List.replicate 3 c ++ [32, 49, 44, 49])))) ⟨same_new nD, upd_same⟩ (fun _ _ _ _ => True.intro) (fun i x H' H2 hi ⟨sm, hD⟩ ⟨eH, c, hc, ex⟩ => ?_) (fun H' ⟨sm, hD⟩ => ?_)
      · subst eH ex
        have hc' : ([97, 98, 99, 100, 101, 102, 103, 104] : List Nat)[i]? = some c := by
          rw [e8] at hc
          simpa using hc
        refine ⟨rfl, yes (iteT ?_)⟩
        refine ⟨_, rfl, c, 3, rfl, rfl, by decide, _, _, rfl, rfl, ?_, _, hD, ?_, same_late sm nD, ?_⟩
        · rw [S_len, e11, S_len, List.length_replicate]
          decide
        · rw [tx_len, List.length_map]
          exact small1000 (Nat.le_trans (List.length_take_le' _ _) (by decide))
        · rw [upd_same, List.take_add_one, hc', e11, S_cat, List.map_append]
          rw [← tx_app]
          rfl
      · have e0 : (Str.ofString "abcdefgh").cps.size = 8 := by rw [e8]; rfl
        rw [e0, show ([97, 98, 99, 100, 101, 102, 103, 104] : List Nat).take 8 = [97, 98, 99, 100, 101, 102, 103, 104] from rfl] at hD
        refine ⟨.ref p, rfl, .int to_, rfl, to_, rfl, sl_tx (sm _ _ hp5) fun l1 y1 m1 n1 => ?_⟩
        have t1 := sm.trans (same_new (o := .lst (tx y1)) n1)
        refine cat_tx (same_new n1 _ _ hD) upd_same (by have := m1.l; rw [List.length_map]; show 8 + y1.length ≤ 1000; omega) fun l2 n2 => ?_
        refine fin (t1.trans (same_new n2)) (t1.free n2) upd_same (by have := m1.l; rw [List.length_append, List.length_map]; show 8 + y1.length ≤ 20; omega) fun y hy => ?_
        rcases List.mem_append.mp hy with hy | hy
        · obtain ⟨c, hc, rfl⟩ := List.mem_map.mp hy
          simp only [List.mem_cons, List.mem_nil_iff, or_false] at hc
          rcases hc with h | h | h | h | h | h | h | h <;> (subst h; exact ⟨by decide, by decide⟩)
        · exact sub m1 y hy
    · -- eight lines more
      refine ⟨Str.ofString "abcdefgh", rfl, fun D nD => ?_⟩
      have e8 : (Str.ofString "abcdefgh" : Str) = S [97, 98, 99, 100, 101, 102, 103, 104] := TL.ext_tl (by rw [TL.tl_ofString]; rfl)
      have e11 : (Str.ofString " 1,1" : Str) = S [32, 49, 44, 49] := TL.ext_tl (by rw [TL.tl_ofString]; rfl)
      refine lc_it walk_str (fun i H' => Same H5 H' ∧ H' D = some (.lst (tx ((([97, 98, 99, 100, 101, 102, 103, 104] : List Nat).take i).map fun c => List.replicate 3 c ++ [32, 49, 44, 49])))) ⟨same_new nD, upd_same⟩ (fun _ _ _ _ => True.intro) (fun i x H' H2 hi ⟨sm, hD⟩ ⟨eH, c, hc, ex⟩ => ?_) (fun H' ⟨sm, hD⟩ => ?_)
      · subst eH ex
        have hc' : ([97, 98, 99, 100, 101, 102, 103, 104] : List Nat)[i]? = some c := by
          rw [e8] at hc
          simpa using hc
        refine ⟨rfl, yes (iteT ?_)⟩
        refine ⟨_, rfl, c, 3, rfl, rfl, by decide, _, _, rfl, rfl, ?_, _, hD, ?_, same_late sm nD, ?_⟩
        · rw [S_len, e11, S_len, List.length_replicate]
          decide
        · rw [tx_len, List.length_map]
          exact small1000 (Nat.le_trans (List.length_take_le' _ _) (by decide))
        · rw [upd_same, List.take_add_one, hc', e11, S_cat, List.map_append]
          rw [← tx_app]
          rfl
      · have e0 : (Str.ofString "abcdefgh").cps.size = 8 := by rw [e8]; rfl
        rw [e0, show ([97, 98, 99, 100, 101, 102, 103, 104] : List Nat).take 8 = [97, 98, 99, 100, 101, 102, 103, 104] from rfl] at hD
        refine ⟨.ref p, rfl, .int to_, rfl, to_, rfl, sl_tx (sm _ _ hp5) fun l1 y1 m1 n1 => ?_⟩
        have t1 := sm.trans (same_new (o := .lst (tx y1)) n1)
        refine cat_tx (same_new n1 _ _ hD) upd_same (by have := m1.l; rw [List.length_map]; show 8 + y1.length ≤ 1000; omega) fun l2 n2 => ?_
        refine fin (t1.trans (same_new n2)) (t1.free n2) upd_same (by have := m1.l; rw [List.length_append, List.length_map]; show 8 + y1.length ≤ 20; omega) fun y hy => ?_
        rcases List.mem_append.mp hy with hy | hy
        · obtain ⟨c, hc, rfl⟩ := List.mem_map.mp hy
          simp only [List.mem_cons, List.mem_nil_iff, or_false] at hc
          rcases hc with h | h | h | h | h | h | h | h <;> (subst h; exact ⟨by decide, by decide⟩)
        · exact sub m1 y hy
end
end HL

set_option pp.maxSteps 1500
set_option pp.deepTerms false
namespace HL
open PySem PySem.Spec PyProof.Rows L2
open SX (S S_len S_cat split_S join_S)
/-! ### a number as it is written -/
theorem dv_app (y : List Nat) (c : Nat) : NumText.digitsVal (y ++ [c]) = NumText.digitsVal y * 10 + (c - 48) := by
  unfold NumText.digitsVal
  rw [List.foldl_append]
  rfl
theorem numL_back : ∀ (n : Nat) (z : List Nat), z.length ≤ n → z ≠ [] → (∀ c ∈ z, 48 ≤ c ∧ c ≤ 57) → (z.head? ≠ some 48 ∨ z = [48]) → TL.numL (NumText.digitsVal z) = z ∧ (z.head? ≠ some 48 → 1 ≤ NumText.digitsVal z)
  | 0, z, hl, hne, _, _ => absurd (List.length_eq_zero_iff.mp (by omega)) hne
  | n + 1, z, hl, hne, hd, h0 => by
    have ez : z = z.dropLast ++ [z.getLast hne] := (List.dropLast_concat_getLast hne).symm
    generalize z.dropLast = y at ez
    generalize z.getLast hne = c at ez
    subst ez
    have hc := hd c (List.mem_append_right _ (List.mem_singleton.mpr rfl))
    rw [dv_app]
    by_cases hy : y = []
    · subst hy
      have e : NumText.digitsVal [] * 10 + (c - 48) = c - 48 := by
        show 0 * 10 + (c - 48) = _
        omega
      rw [e, TL.numL_lt (by omega)]
      refine ⟨by rw [List.nil_append, show 48 + (c - 48) = c by omega], fun h => ?_⟩
      have : c ≠ 48 := fun q => h (by rw [q]; rfl)
      omega
    · have hh : (y ++ [c]).head? = y.head? := by
        cases y with
        | nil => exact absurd rfl hy
        | cons a r => rfl
      have h1 : y.head? ≠ some 48 := by
        rcases h0 with h0 | h0
        · rw [← hh]; exact h0
        · have := congrArg List.length h0
          rw [List.length_append, List.length_singleton, List.length_singleton] at this
          exact absurd (List.length_eq_zero_iff.mp (by omega)) hy
      have hly : y.length ≤ n := by
        rw [List.length_append, List.length_singleton] at hl
        omega
      obtain ⟨i1, i2⟩ := numL_back n y hly hy (fun d hd' => hd d (List.mem_append_left _ hd')) (.inl h1)
      have i3 := i2 h1
      refine ⟨?_, fun _ => by omega⟩
      rw [TL.numL_step (by omega), show (NumText.digitsVal y * 10 + (c - 48)) / 10 = NumText.digitsVal y by omega, i1, show 48 + (NumText.digitsVal y * 10 + (c - 48)) % 10 = c by omega]
theorem num_back {z : List Nat} (h : isNum z = true) : wr (valW z) = z := by
  unfold isNum at h
  rw [Bool.and_eq_true, Bool.and_eq_true] at h
  obtain ⟨h1, h2, h3⟩ := h
  have h1 := of_decide_eq_true h1
  have hne : figs z ≠ [] := fun e => by rw [e] at h1; exact absurd h1.1 (by decide)
  have hd : ∀ c ∈ figs z, 48 ≤ c ∧ c ≤ 57 := fun c hc => dig_iff.mp (List.all_eq_true.mp h2 c hc)
  by_cases e : z.head? = some 45
  · cases z with
    | nil => cases e
    | cons x r =>
      have ex : x = 45 := Option.some.inj e
      subst ex
      have er : figs (45 :: r) = r := rfl
      rw [er] at hne hd h3
      have h4 : r.head? ≠ some 48 := by
        rw [Bool.or_eq_true] at h3
        rcases h3 with h3 | h3
        · unfold hd0 at h3
          exact fun q => by rw [decide_eq_true q] at h3; cases h3
        · have := of_decide_eq_true h3
          cases this
      obtain ⟨i1, i2⟩ := numL_back _ r (Nat.le_refl _) hne hd (.inl h4)
      have i3 := i2 h4
      show wr (-((NumText.digitsVal r : Nat) : Int)) = 45 :: r
      unfold wr
      rw [if_neg (by omega), show (-((NumText.digitsVal r : Nat) : Int)).natAbs = NumText.digitsVal r by omega, i1]
  · have ef : figs z = z := figs_ne e
    rw [ef] at hne hd h3
    have h4 : z.head? ≠ some 48 ∨ z = [48] := by
      rw [Bool.or_eq_true] at h3
      rcases h3 with h3 | h3
      · unfold hd0 at h3
        exact .inl fun q => by rw [decide_eq_true q] at h3; cases h3
      · exact .inr (of_decide_eq_true h3)
    obtain ⟨i1, _⟩ := numL_back _ z (Nat.le_refl _) hne hd h4
    rw [valW_ne e]
    unfold wr
    rw [if_pos (by omega), Int.toNat_natCast, i1]
theorem cut_at {s : Nat} : ∀ {u : List Nat}, s ∈ u → u = u.takeWhile (fun c => decide (c ≠ s)) ++ (s :: (u.dropWhile (fun c => decide (c ≠ s))).drop 1)
  | [], h => by cases h
  | c :: r, h => by
    by_cases e : c = s
    · subst e
      simp
    · have h' : s ∈ r := by
        rcases List.mem_cons.mp h with q | q
        · exact absurd q.symm e
        · exact q
      have d : decide (c ≠ s) = true := decide_eq_true e
      have i := cut_at h'
      rw [List.takeWhile_cons_of_pos (p := fun c => decide (c ≠ s)) d, List.dropWhile_cons_of_pos (p := fun c => decide (c ≠ s)) d, List.cons_append, ← i]
theorem hd_free (s : Nat) (u : List Nat) : s ∉ u.takeWhile (fun c => decide (c ≠ s)) := fun h => by
  have h2 : decide (s ≠ s) = true := List.all_eq_true.mp (List.all_takeWhile (l := u) (p := fun c => decide (c ≠ s))) _ h
  simp at h2
theorem spl_neS (s : Nat) (z acc : List Nat) : TL.spl [s] 0 acc z ≠ [] := by
  induction z generalizing acc with
  | nil => rw [TL.spl_nil]; exact List.cons_ne_nil _ _
  | cons c r ih =>
    cases e : TL.pre [s] (c :: r) with
    | true => rw [TL.spl_hit e]; exact List.cons_ne_nil _ _
    | false => rw [TL.spl_miss e]; exact ih _
theorem spl_back (s : Nat) : ∀ (n : Nat) (u : List Nat), u.length ≤ n → TL.joinL [s] (TL.spl [s] 0 [] u) = u
  | 0, u, h => by
    have e : u = [] := List.length_eq_zero_iff.mp (by omega)
    subst e
    rfl
  | n + 1, u, h => by
    by_cases c : s ∈ u
    · have e := cut_at c
      have hf := hd_free s u
      generalize u.takeWhile (fun c => decide (c ≠ s)) = p at e hf
      generalize (u.dropWhile (fun c => decide (c ≠ s))).drop 1 = q at e
      have l := congrArg List.length e
      rw [List.length_append, List.length_cons] at l
      subst e
      have q1 : TL.spl [s] 0 [] (p ++ s :: q) = p :: TL.spl [s] 0 [] q := TL.spl_part1 (s := s) (S := []) (p := p) (rest := q) (acc := []) hf
      rw [q1]
      have i := spl_back s n q (by omega)
      cases k : TL.spl [s] 0 [] q with
      | nil => exact absurd k (spl_neS s _ _)
      | cons a r =>
        rw [k] at i
        show p ++ ([s] ++ TL.joinL [s] (a :: r)) = _
        rw [i]
        rfl
    · have q1 : TL.spl [s] 0 [] u = [u] := TL.spl_last1 (s := s) (S := []) (acc := []) c
      rw [q1]
      rfl
theorem lot_back {z : List Nat} (h : okT z = true) : lotL (rowsT z) = z := by
  unfold lotL rowsT
  rw [List.map_map]
  have e : (kindsOf z).map (rowL ∘ fun u => (wordsOf u).map valW) = kindsOf z := by
    refine (List.map_congr_left fun u hu => ?_).trans (List.map_id _)
    have hn : (wordsOf u).all isNum = true := List.all_eq_true.mp h u hu
    show TL.joinL [44] (((wordsOf u).map valW).map wr) = u
    rw [List.map_map]
    have e2 : (wordsOf u).map (wr ∘ valW) = wordsOf u := (List.map_congr_left fun v hv => num_back (List.all_eq_true.mp hn v hv)).trans (List.map_id _)
    rw [e2]
    exact spl_back 44 _ u (Nat.le_refl _)
  rw [e]
  exact kinds_back _ z (Nat.le_refl _)
/-! ### lines and texts -/
def tz (ys : List (List Nat)) : List Nat := (ys.map (· ++ [10])).flatten
theorem tz_cons (y : List Nat) (r : List (List Nat)) : tz (y :: r) = y ++ [10] ++ tz r := rfl
theorem tz_app (a b : List (List Nat)) : tz (a ++ b) = tz a ++ tz b := by unfold tz; rw [List.map_append, List.flatten_append]
theorem joinN_tz (l : List Nat) : ∀ ys : List (List Nat), TL.joinL [10] (ys ++ [l]) = tz ys ++ l
  | [] => rfl
  | [y] => by
    show y ++ ([10] ++ l) = y ++ [10] ++ [] ++ l
    simp
  | y :: y2 :: r => by
    show y ++ ([10] ++ TL.joinL [10] ((y2 :: r) ++ [l])) = _
    rw [joinN_tz l (y2 :: r), tz_cons y]
    simp
theorem lines_join {ps : List (List Nat)} (hne : ps ≠ []) (h : ∀ p ∈ ps, 10 ∉ p) : linesOf (TL.joinL [10] ps) = ps := TL.spl_join hne h
/-- a text that the law may ask of -/
def PgText (z : List Nat) : Prop := ∃ (ps : List (List Nat)), ps ≠ [] ∧ ps.length ≤ 22 ∧ (∀ p ∈ ps, p.length ≤ 100 ∧ 10 ∉ p) ∧ z = TL.joinL [10] ps
theorem tz_len {ys : List (List Nat)} (h : ∀ y ∈ ys, y.length ≤ 100) : (tz ys).length ≤ ys.length * 101 := by
  induction ys with
  | nil => exact Nat.zero_le _
  | cons y r ih =>
    have h1 := h y List.mem_cons_self
    have h2 := ih fun q hq => h q (List.mem_cons_of_mem _ hq)
    rw [tz_cons, List.length_append, List.length_append, List.length_singleton, List.length_cons, Nat.succ_mul]
    omega
theorem PgText.facts {z : List Nat} (h : PgText z) : z.length ≤ 3000 ∧ (linesOf z).length ≤ 60 ∧ ∀ u ∈ linesOf z, u.length ≤ 150 := by
  obtain ⟨ps, h1, h2, h3, rfl⟩ := h
  rw [lines_join h1 fun p hp => (h3 p hp).2]
  refine ⟨?_, by omega, fun u hu => by have := (h3 u hu).1; omega⟩
  have e := (List.dropLast_concat_getLast h1).symm
  have hl := (h3 _ (List.getLast_mem h1)).1
  have hd : ∀ y ∈ ps.dropLast, y.length ≤ 100 := fun y hy => (h3 y ((List.dropLast_sublist _).subset hy)).1
  have ld : ps.dropLast.length ≤ 22 := by rw [List.length_dropLast]; omega
  rw [e, joinN_tz, List.length_append]
  have := tz_len hd
  have : ps.dropLast.length * 101 ≤ 22 * 101 := Nat.mul_le_mul_right _ ld
  omega
theorem pg_plain {ys : List (List Nat)} (l : List Nat) (hy : ys.length ≤ 21) (hg : ∀ y ∈ ys, LnS y) (hl : LnS l) : PgText (tz ys ++ l) := by
  refine ⟨ys ++ [l], by simp, by rw [List.length_append, List.length_singleton]; omega, fun p hp => ?_, (joinN_tz l ys).symm⟩
  rcases List.mem_append.mp hp with hp | hp
  · exact hg p hp
  · rw [List.mem_singleton.mp hp]; exact hl
theorem lnS_nil : LnS [] := ⟨Nat.zero_le _, fun h => by cases h⟩
theorem pg_text {ys : List (List Nat)} (hy : ys.length ≤ 20) (hg : ∀ y ∈ ys, LnS y) : PgText (tz ys) ∧ PgText (tz ys).dropLast ∧ PgText (tz ys ++ [10]) ∧ PgText (tz ys ++ [97, 32, 49]) := by
  refine ⟨?_, ?_, ?_, pg_plain _ (by omega) hg ⟨by decide, by decide⟩⟩
  · have := pg_plain [] (by omega) hg lnS_nil
    rw [List.append_nil] at this
    exact this
  · by_cases e : ys = []
    · subst e
      exact ⟨[[]], by simp, by decide, fun p hp => by rw [List.mem_singleton.mp hp]; exact lnS_nil, rfl⟩
    · have ez := (List.dropLast_concat_getLast e).symm
      have hl := hg _ (List.getLast_mem e)
      have hd : ∀ y ∈ ys.dropLast, LnS y := fun y hy => hg y ((List.dropLast_sublist _).subset hy)
      have ld : ys.dropLast.length ≤ 21 := by rw [List.length_dropLast]; omega
      have e2 : (tz ys).dropLast = tz ys.dropLast ++ ys.getLast e := by
        rw [congrArg tz ez, tz_app]
        show (tz ys.dropLast ++ (ys.getLast e ++ [10] ++ [])).dropLast = _
        rw [List.append_nil, ← List.append_assoc, List.dropLast_concat]
      rw [e2]
      exact pg_plain _ ld hd hl
  · have := pg_plain (ys := ys ++ [[]]) [] (by rw [List.length_append, List.length_singleton]; omega) (fun y hy => by
      rcases List.mem_append.mp hy with hy | hy
      · exact hg y hy
      · rw [List.mem_singleton.mp hy]; exact lnS_nil) lnS_nil
    rw [tz_app, List.append_nil] at this
    exact this
theorem cut_drop (z : List Nat) : cutS (S z) none (some (-1)) = S z.dropLast := by
  by_cases e : z = []
  · subst e
    rfl
  · rw [C8.cutS_slice, SX.slice_butlast e, List.dropLast_eq_take]
/-- what a page that is one tells: the lots of its lines -/
def psOf (ws : List (List Nat)) : List (List Nat × List (List Int)) := ws.map fun u => (nmOf u, rowsT (wrOf u))
theorem page_back {z : List Nat} (h : pgF z = none) : z = pgT (psOf (linesOf z).dropLast) ∧ pgG 0 [] (linesOf z).dropLast = none ∧ (linesOf z).length = (linesOf z).dropLast.length + 1 := by
  have hj : TL.joinL [10] (linesOf z) = z := spl_back 10 _ z (Nat.le_refl _)
  have une : linesOf z ≠ [] := spl_ne10 z []
  unfold pgF at h
  cases hg : pgG 0 [] (linesOf z).dropLast with
  | some i => rw [hg] at h; cases h
  | none =>
    rw [hg] at h
    have hl : (linesOf z).getLast? = some [] := by
      by_cases c : (linesOf z).getLast? = some []
      · exact c
      · exact absurd h (by show (if _ then none else some _) ≠ none; rw [if_neg c]; exact fun q => by cases q)
    refine ⟨?_, rfl, by rw [List.length_dropLast]; have := List.length_pos_iff.mpr une; omega⟩
    have e := (List.dropLast_concat_getLast une).symm
    rw [List.getLast?_eq_some_getLast une] at hl
    rw [Option.some.inj hl] at e
    have e2 : z = tz (linesOf z).dropLast := by
      rw [← List.append_nil (tz _), ← joinN_tz, ← e, hj]
    have e3 : pgT (psOf (linesOf z).dropLast) = tz (linesOf z).dropLast := by
      unfold pgT psOf tz
      rw [List.map_map]
      refine congrArg List.flatten (List.map_congr_left fun u hu => ?_)
      obtain ⟨h1, h2, h3⟩ := pgG_each hg u hu
      have hb : 32 ∈ u := by
        by_cases c : 32 ∈ u
        · exact c
        · rw [(line_whole c).2, okT_nil] at h2
          cases h2
      show nmOf u ++ [32] ++ lotL (rowsT (wrOf u)) ++ [10] = u ++ [10]
      have q := line_cut hb
      rw [lot_back h2]
      conv => rhs; rw [q]
      simp
    rw [e3]
    exact e2
end HL

set_option pp.maxSteps 1500
set_option pp.deepTerms false
namespace HL
open PySem PySem.Spec PyProof.Rows L2
open C8 (pss_cut)
open SX (S S_len S_cat split_S join_S)
abbrev NL : List Str := ["_law_script", "_law_feed_here", "_law_names_here", "_law_lines", "_law_turn", "_law_bent_here", "_law_text", "_law_due", "_law_where", "_law_found", "e", "_law_line", "_law_name"]
theorem scLaw : FnScope NL ["_law_script"] (defScope sLaw) := ⟨rfl, rfl, rfl, by decide +kernel, rfl, by decide +kernel, by decide +kernel⟩
theorem good_flaw {g m : Int} {ll : List (List Int)} (g1 : 1 ≤ g) (g3 : g ≤ 3) (m6 : m ≤ 6) (h : GoodLot g m 5 ll) : flaw ll = none := by
  obtain ⟨h1, h2, h3⟩ := h
  have hw : width ll = g.toNat := by
    cases ll with
    | nil => simp at h1
    | cons r rs => exact (h3 r List.mem_cons_self).1
  unfold flaw
  rw [if_pos ⟨h1, h2, by omega, by omega⟩]
  exact flawIn_none fun j r hj hjr => by
    obtain ⟨e1, e2, e3⟩ := h3 r (List.mem_of_getElem? hjr)
    refine okRow_iff.mpr ⟨by rw [e1, hw], fun n hn => ?_, e3⟩
    have := e2 n hn
    omega
theorem lot_free {ll : List (List Int)} (h : flaw ll = none) : 10 ∉ lotL ll := join_free (by decide) fun p hp => by
  obtain ⟨r, hr, rfl⟩ := List.mem_map.mp hp
  refine join_free (by decide) fun q hq => ?_
  obtain ⟨n, _, rfl⟩ := List.mem_map.mp hq
  exact wr_free (.inl (by decide)) (by decide)
theorem join_tz (ys : List (List Nat)) : Txt.join (Str.ofString "") ((ys.map (· ++ [10])).map S) = S (tz ys) := by
  rw [show (Str.ofString "" : Str) = S [] from TL.ext_tl (by rw [TL.tl_ofString]; rfl), join_S, joinL_nil]
  rfl
theorem stk_ls {H : Hp} {kvs : List (Key × V)} {ws : List (List Nat)} (h : Stk H kvs ws) : LsAt H kvs (psOf ws) := by
  refine ⟨by rw [h.1]; unfold psOf; rw [List.length_map], fun i n ll e => ?_⟩
  unfold psOf at e
  rw [List.getElem?_map] at e
  cases c : ws[i]? with
  | none => rw [c] at e; cases e
  | some u =>
    rw [c] at e
    cases Option.some.inj e
    exact h.2 i u c
def spLaw (K : PySem.W.Frag) : Sp := fun vs H Q _ => ∃ (a : Addr) (ns : List Int), vs = [.ref a] ∧ SqL K H a (ns.map V.int) ∧ ns.length ≤ 63 ∧ ∀ H', Q (.bl true) H'
structure Txt (P : Program) (w : World) (K : PySem.W.Frag) (mg : Str → Option Value) (base : Heap) (CT CY CS : Addr) : Prop where
  B : Bl mg
  so : mg "sorted" = none
  feed : Cal P w K mg base CX0 1 "_law_feed" ["_law_script"] (spFeed K)
  draw : Cal P w K mg base CX0 1 "_law_draw" ["_law_feed_here", "_law_many"] spDraw
  pick : Cal P w K mg base CX0 2 "_law_pick" ["_law_feed_here", "_law_row"] spPick
  same : Cal P w K mg base CX0 1 "_law_same" ["_law_found", "_law_due"] (spSame 0)
  any : Cal P w K mg base CX0 4 "_law_any_lot" ["_law_feed_here"] spAny
  lt : Cal P w K mg base CX0 2 "_law_lot_text" ["_law_lot_here"] spLotTextL
  nm : Cal P w K mg base CX0 2 "_law_names" ["_law_feed_here", "_law_many"] spNames
  bn : Cal P w K mg base CX0 3 "_law_bent" ["_law_feed_here", "_law_lines"] spBent
  rd : Cal P w K mg base CX0 3 "_law_read" ["_law_text"] spRead53
  rp : Cal P w K mg base (L2.CX P w) 8 "read_page" ["text"] (spReadPage CT CY CS)
  pg : Cal P w K mg base CX0 7 "page" ["yard"] (spYStr CY CS)
  ln : MCal P w K mg base CX0 1 CY "__len__" ["self"] (spYLen CY CS)
  gT : mg "BadText" = some (.ref CT)
  XF : XfC K CT
  nF : PySem.W.findIn K (.ref CT) "at" = some none
  te : PySem.W.exmOne K (.ref CT) (.ref CT) = some true
section
variable {P : Program} {w : World} {K : PySem.W.Frag} {mg : Str → Option Value} {base : Heap}
/-- what stands through the law's turns -/
structure S5 (fe cf ln : Addr) (ls : List (List Nat)) (H : Hp) : Prop where
  F : FeedAt cf H fe
  L : H ln = some (.lst (tx ls))
theorem S5.same {fe cf ln : Addr} {ls : List (List Nat)} {H H' : Hp} (h : S5 fe cf ln ls H) (s : Same H H') : S5 fe cf ln ls H' := ⟨h.F.same s, s _ _ h.L⟩
theorem S5.kp {fe cf ln : Addr} {ls : List (List Nat)} {H H' : Hp} (h : S5 fe cf ln ls H) (n : ln ≠ fe) (k : Kp fe H H') (F : FeedAt cf H' fe) : S5 fe cf ln ls H' := ⟨F, k _ _ n h.L⟩
theorem ok_law {f CT CY CS : Addr} {fd : FuncData} (F : Fun K "law" "law" sLaw f fd) (T : Txt P w K mg base CT CY CS) : FnOk P w K mg base CX0 10 f fd ["_law_script"] (spLaw K) := by
  have B := T.B
  have ms := T.so
  obtain ⟨fF, fdF, GF, gF, kF, bF⟩ := T.feed.ex
  obtain ⟨fD, fdD, GD, gD, kD, bD⟩ := T.draw.ex
  obtain ⟨fP, fdP, GP, gP, kP, bP⟩ := T.pick.ex
  obtain ⟨fS, fdS, GS, gS, kS, bS⟩ := T.same.ex
  obtain ⟨fA, fdA, GA, gA, kA, bA⟩ := T.any.ex
  obtain ⟨fLt, fdLt, GLt, gLt, kLt, bLt⟩ := T.lt.ex
  obtain ⟨fN, fdN, GN, gN, kN, bN⟩ := T.nm.ex
  obtain ⟨fBn, fdBn, GBn, gBn, kBn, bBn⟩ := T.bn.ex
  obtain ⟨fRd, fdRd, GRd, gRd, kRd, bRd⟩ := T.rd.ex
  obtain ⟨fRp, fdRp, GRp, gRp, kRp, bRp⟩ := T.rp.ex
  obtain ⟨fPg, fdPg, GPg, gPg, kPg, bPg⟩ := T.pg.ex
  obtain ⟨fLn, fdLn, GLn, mLn, bLn⟩ := T.ln
  refine F.ok scLaw (fun vs H Q E h => ?_) (fun cdv A outer s H vs Q E hr h => ?_)
  · obtain ⟨a, ns, rfl, _⟩ := h
    rfl
  · obtain ⟨a, ns, rfl, hS, hlen, q⟩ := h
    refine ⟨_, (pss_cons (ps_set (i := 1) scLaw.nd rfl (.inr rfl) (pe_call GF (hr.mono (by decide)) (by rfl) gF kF bF .nil pass0 (pa_cons (pv 0) pa_nil)))
      (pss_cut (ps_set (i := 2) scLaw.nd rfl (.inl rfl) (pe_callB cr_sortedS (by rfl) ms (by decide +kernel) (pa_cons (pe_slice sl_list (pe_call GN (hr.mono (by decide)) (by rfl) gN kN bN .nil pass0 (pa_cons (pv 1) (pa_cons pe_int pa_nil))) po_none (po_some (pe_call GD (hr.mono (by decide)) (by rfl) gD kD bD .nil pass0 (pa_cons (pv 1) (pa_cons pe_int pa_nil))))) pa_nil)))
      (pss_cut (ps_setLc (i := 3) (own := [("_law_name", 12)]) (g := gName 12) (tt := tYes) rfl scLaw.nd rfl rfl (sw_true rfl rfl rfl (by decide +kernel)) (pi_list (pv 2))
        (blkOk_by (own := [("_law_name", 12)]) (N := NL) (sc := defScope sLaw) (by decide +kernel)) (fun _ _ _ _ _ => pg_name (i := 12) scLaw.nd rfl (Or.inl rfl)) (fun _ _ _ _ _ => pts_nil)
        (fun _ _ _ _ _ => (pe_op op_add_str (pe_op op_add_str (pv 12) pe_str) (pe_call GLt (hr.mono (by decide)) (by rfl) gLt kLt bLt .nil pass0 (pa_cons (pe_call GA (hr.mono (by decide)) (by rfl) gA kA bA .nil pass0 (pa_cons (pv 1) pa_nil)) pa_nil)))))
      (pss_cons (ps_for PassesOwn.never rfl (pi_range1 (by rfl) B.range (pa_cons pe_int pa_nil)) (pg_name (i := 4) scLaw.nd rfl (.inl rfl))
      (pss_cut (ps_set (i := 5) scLaw.nd rfl (.inl rfl) (pe_call GBn (hr.mono (by decide)) (by rfl) gBn kBn bBn .nil pass0 (pa_cons (pv 1) (pa_cons (pv 3) pa_nil))))
      (pss_cut (ps_set (i := 6) scLaw.nd rfl (.inl rfl) (pe_join pe_str (pe_lc (own := [("_law_line", 11)]) (g := gName 11) (tt := tYes) rfl scLaw.nd (pi_list (pv 5))
        (blkOk_by (own := [("_law_line", 11)]) (N := NL) (sc := defScope sLaw) (by decide +kernel)) (fun _ _ _ _ _ => pg_name (i := 11) scLaw.nd rfl (Or.inl rfl)) (fun _ _ _ _ _ => pts_nil)
        (fun _ _ _ _ _ => (pe_op op_add_str (pv 11) pe_str)))))
      (pss_cut (ps_set (i := 6) scLaw.nd rfl (.inl rfl) (pe_call GP (hr.mono (by decide)) (by rfl) gP kP bP .nil pass0 (pa_cons (pv 1) (pa_cons (pe_lst (pa_cons (pv 6) (pa_cons (pv 6) (pa_cons (pe_slice sl_str (pv 6) po_none (po_some (pe_un un_neg pe_int))) (pa_cons (pe_op op_add_str (pv 6) pe_str) (pa_cons (pe_op op_add_str (pv 6) pe_str) pa_nil)))))) pa_nil))))
      (pss_cut (ps_set (i := 7) scLaw.nd rfl (.inl rfl) (pe_call GRd (hr.mono (by decide)) (by rfl) gRd kRd bRd .nil pass0 (pa_cons (pv 6) pa_nil)))
      (pss_cons (ps_set (i := 8) scLaw.nd rfl (.inl rfl) pe_str)
      (pss_cons (ps_set (i := 9) scLaw.nd rfl (.inl rfl) pe_non)
      (pss_cut (ps_try_as (i := 10) (Wout := fun _ _ _ _ => False) rfl rfl scLaw.nd rfl rfl ⟨rfl, by decide, .inl T.gT⟩ L2.takes0 (fun W pn xe tk _ => pss_one (ps_set (i := 9) scLaw.nd rfl (.inl rfl) (pe_callS GRp (hr.mono (by decide)) (by rfl) gRp kRp bRp (fun σ => passAt tk σ) (pa_cons (pv 6) pa_nil))))
        (fun a oe cls d pn hz hf => pss_one (ps_set (i := 8) scLaw.nd rfl (.inl rfl) (pe_xf T.XF T.nF hz hf (pv 10)))))
      (pss_cons (ps_if (pt_not (pt_val (pe_call GS (hr.mono (by decide)) (by rfl) gS kS bS .nil pass0 (pa_cons (pv 8) (pa_cons (pe_ifExp (pt_cmpR op_isN (pv 7) pe_non (nomark _)) pe_str (pv 7)) pa_nil))))) pss_never pss_nil)
      (pss_one (ps_if (PW.pt (pw_and (pt_cmpR op_isN (pv 7) pe_non (nomark _)) (pw_and1 (PW.pt (pw_or (pt_cmpR op_ne (pe_call GPg (hr.mono (by decide)) (by rfl) gPg kPg bPg .nil pass0 (pa_cons (pv 9) pa_nil)) (pv 6) (nomark _)) (pw_or1 (pt_cmpR op_ne (pe_callB (call_lenO (E := fun _ _ _ => False) GLn mLn.at_ mLn.fn bLn (hr.mono (by decide)) pass0) (by rfl) B.len PySem.boot_len (pa_cons (pv 9) pa_nil)) (pe_op op_sub (pe_callB call_len_seq (by rfl) B.len PySem.boot_len (pa_cons (pe_split (pv 6) pe_str) pa_nil)) pe_int) (nomark _)))))))) pss_never pss_nil)))))))))))
      (pss_one (ps_ret pe_bl)))))), ?_⟩
    refine ⟨.ref a, rfl, a, ns, rfl, hS, hlen, fun H1 fe cf s1 nf F1 => ?_⟩
    refine ⟨fun σ' H' => ∃ (np : Addr) (zs : List (List Nat)), σ' = [some (.ref a), some (.ref fe), some (.ref np), none, none, none, none, none, none, none, none, none, none] ∧ FeedAt cf H' fe ∧ H' np = some (.lst (tx zs)) ∧ np ≠ fe ∧ zs.length ≤ 5 ∧ ∀ z ∈ zs, NmS z, ?_, ?_⟩
    · refine ⟨.ref fe, rfl, fe, cf, rfl, F1, fun H2 np zs k2 F2 nnp0 nnp hnp hlz hz => ?_⟩
      refine ⟨.ref fe, rfl, fe, cf, 6, rfl, by decide, by decide, F2, fun d H3 a0 a1 k3 F3 => ⟨d, rfl, sl_tx (k3 _ _ nnp hnp) fun l ys m nl => ?_⟩⟩
      refine ⟨l, ys.map S, rfl, SqL.of upd_same, by rw [List.length_map]; have := m.l; omega, fun ss p pm srt npp => ?_⟩
      rw [← txts_of ss] at pm ⊢
      generalize ss.map (fun s => s.cps.toList) = ws at pm ⊢
      have k0 := same_new (o := .lst (tx ys)) nl
      have k1 := same_new (o := .lst ((ws.map S).map V.str)) npp
      refine ⟨p, ws, rfl, (F3.same k0).same k1, upd_same, (F3.same k0).ne npp, ?_, fun z hz' => ?_⟩
      · have := pm.length_eq
        rw [List.length_map, List.length_map] at this
        have := m.l
        omega
      · have hm := pm.mem_iff.mp (List.mem_map.mpr ⟨z, hz', rfl⟩)
        obtain ⟨y, hy, ey⟩ := List.mem_map.mp hm
        rw [← SX.S_inj ey]
        exact hz y (m.m y hy)
    rintro σ1 H2 ⟨np, zs, rfl, F2, hnp, nnp, lz, hz⟩
    refine ⟨fun σ' H' => ∃ (ln : Addr) (ls : List (List Nat)), σ' = [some (.ref a), some (.ref fe), some (.ref np), some (.ref ln), none, none, none, none, none, none, none, none, none] ∧ S5 fe cf ln ls H' ∧ ln ≠ fe ∧ ls.length ≤ 5 ∧ ∀ z ∈ ls, z.length ≤ 49 ∧ 10 ∉ z, ?_, ?_⟩
    · refine ⟨.ref np, rfl, np, rfl, ⟨_, SqL.of hnp⟩, fun D nD => ?_⟩
      have nDf := F2.ne nD
      have nDn : D ≠ np := fun e => by rw [e, hnp] at nD; cases nD
      refine lc_list (K := K) (a := np) (xs := tx zs) (fun i H' => FeedAt cf H' fe ∧ H' np = some (.lst (tx zs)) ∧ ∃ ls : List (List Nat), H' D = some (.lst (tx ls)) ∧ ls.length = i ∧ ∀ z ∈ ls, z.length ≤ 49 ∧ 10 ∉ z) ⟨F2.new nD, by rw [upd_ne (Ne.symm nDn)]; exact hnp, [], upd_same, rfl, fun z hz => by cases hz⟩ (fun i H' _ hI => SqL.of hI.2.1) (fun i x H' hx hI => ?_) (fun H' hI => ?_)
      · obtain ⟨F3, hnp3, ls, hD, hl, hall⟩ := hI
        obtain ⟨z, hz0, rfl⟩ := str_at hx
        have hil := (List.getElem?_eq_some_iff.mp hz0).1
        obtain ⟨z13, zlet⟩ := hz z (List.mem_of_getElem? hz0)
        have nDc := F2.neC nD
        refine ⟨rfl, yes (iteT ?_)⟩
        refine ⟨.str (S z), rfl, _, _, rfl, rfl, ?_, .ref fe, rfl, fe, cf, rfl, F3, fun H4 p ll g m k4 F4 npp hL g1 g3 m1 m6 gl => ?_⟩
        · rw [S_len, st_blank, S_len]; exact sz1000 (by show z.length + 1 ≤ 1000; omega)
        have ef := good_flaw g1 g3 m6 gl
        have hrw := flaw_rows ef
        have hok := flaw_ok ef
        obtain ⟨sh1, sh2⟩ := lot_short ef
        refine ⟨p, ll, rfl, hL, by omega, fun r hr => ⟨by rw [(hrw r hr).1]; omega, small_rows (flaw_rowsT ef) r hr⟩, fun H5 s5 => ?_⟩
        have hD5 := s5 _ _ (k4 _ _ nDf hD)
        have F5 := F4.same s5
        refine ⟨_, _, rfl, rfl, ?_, _, hD5, ?_, F5.put nDf nDc, ?_, ls ++ [z ++ [32] ++ lotL ll], ?_, by rw [List.length_append, hl]; rfl, fun y hy => ?_⟩
        · rw [st_blank, S_cat, S_len, S_len]; exact sz1000 (by rw [List.length_append, List.length_singleton]; omega)
        · rw [tx_len]; exact small1000 (by omega)
        · rw [upd_ne (Ne.symm nDn)]
          exact s5 _ _ (k4 _ _ nnp hnp3)
        · rw [upd_same, st_blank, S_cat, S_cat, ← tx_app]
          rfl
        · rcases List.mem_append.mp hy with hy | hy
          · exact hall y hy
          · rw [List.mem_singleton.mp hy]
            refine ⟨by rw [List.length_append, List.length_append, List.length_singleton]; omega, fun hm => ?_⟩
            rcases List.mem_append.mp hm with hm | hm
            · rcases List.mem_append.mp hm with hm | hm
              · exact absurd (zlet 10 hm) (by decide)
              · exact absurd (List.mem_singleton.mp hm) (by decide)
            · exact lot_free ef hm
      · obtain ⟨F3, hnp3, ls, hD, hl, hall⟩ := hI
        rw [tx_len] at hl
        exact ⟨D, ls, rfl, ⟨F3, hD⟩, nDf, by omega, hall⟩
    rintro σ2 H3 ⟨ln, ls, rfl, X3, nln, lls, hls⟩
    refine ⟨4, rfl, by decide, by decide, ?_⟩
    refine for_range (lo := 0) (n := 4) (fun i σ' H' => (∃ y4 y5 y6 y7 y8 y9 y10 y11 y12, σ' = [some (.ref a), some (.ref fe), some (.ref np), some (.ref ln), y4, y5, y6, y7, y8, y9, y10, y11, y12]) ∧ S5 fe cf ln ls H') ⟨⟨_, _, _, _, _, _, _, _, _, rfl⟩, X3⟩ (fun i σ H4 hi hI => ?_) (fun σ H4 hI => q H4)
    obtain ⟨⟨y4, y5, y6, y7, y8, y9, y10, y11, y12, rfl⟩, X4⟩ := hI
    -- bent
    refine ⟨fun σ' H' => ∃ (bp : Addr) (ys : List (List Nat)), (∃ y4 y6 y7 y8 y9 y10 y11 y12, σ' = [some (.ref a), some (.ref fe), some (.ref np), some (.ref ln), y4, some (.ref bp), y6, y7, y8, y9, y10, y11, y12]) ∧ S5 fe cf ln ls H' ∧ H' bp = some (.lst (tx ys)) ∧ ys.length ≤ 20 ∧ ∀ y ∈ ys, LnS y, ?_, ?_⟩
    · exact ⟨.ref fe, rfl, .ref ln, rfl, fe, cf, ln, ls, rfl, X4.F, X4.L, nln, lls, hls, fun H5 p ys k5 F5 npf hp hl hall => ⟨p, ys, ⟨_, _, _, _, _, _, _, _, rfl⟩, X4.kp nln k5 F5, hp, hl, hall⟩⟩
    clear X4
    rintro σ' H4 ⟨bp, ys, ⟨y4, y6, y7, y8, y9, y10, y11, y12, rfl⟩, X4, hbp, lys, hys⟩
    -- its text
    refine ⟨fun σ' H' => (∃ y4 y5 y7 y8 y9 y10 y11 y12, σ' = [some (.ref a), some (.ref fe), some (.ref np), some (.ref ln), y4, y5, some (.str (S (tz ys))), y7, y8, y9, y10, y11, y12]) ∧ S5 fe cf ln ls H', ?_, ?_⟩
    · refine ⟨⟨_, rfl⟩, .ref bp, rfl, bp, rfl, ⟨_, SqL.of hbp⟩, fun D nD => ?_⟩
      refine lc_list (K := K) (a := bp) (xs := tx ys) (fun i H' => Same H4 H' ∧ H' D = some (.lst (tx ((ys.take i).map (· ++ [10]))))) ⟨same_new nD, upd_same⟩ (fun i H' _ hI => SqL.of (hI.1 _ _ hbp)) (fun i x H' hx hI => ?_) (fun H' hI => ?_)
      · obtain ⟨sm, hD⟩ := hI
        obtain ⟨y, hy, rfl⟩ := str_at hx
        have hil := (List.getElem?_eq_some_iff.mp hy).1
        have hyl := (hys y (List.mem_of_getElem? hy)).1
        refine ⟨rfl, yes (iteT ?_)⟩
        refine ⟨.str (S y), rfl, _, _, rfl, rfl, ?_, _, hD, ?_, same_late sm nD, ?_⟩
        · rw [S_len, st_line, S_len]; exact sz1000 (by show y.length + 1 ≤ 1000; omega)
        · rw [tx_len, List.length_map]; exact small1000 (Nat.le_trans (List.length_take_le' _ _) (by omega))
        · rw [upd_same, st_line, S_cat, List.take_add_one, hy, List.map_append, ← tx_app]
          rfl
      · obtain ⟨sm, hD⟩ := hI
        rw [tx_len, List.take_length] at hD
        refine ⟨_, D, _, rfl, rfl, .inl (SqL.of hD), ?_, ?_⟩
        · rw [show (Str.ofString "" : Str).length = 0 from by decide +kernel, Nat.mul_zero, Nat.add_zero, SX.lens]
          refine Nat.le_trans (sum_most (m := 200) fun k hk => ?_) (by rw [List.length_map, List.length_map]; omega)
          obtain ⟨q', hq', rfl⟩ := List.mem_map.mp hk
          obtain ⟨r, hr', rfl⟩ := List.mem_map.mp hq'
          have := (hys r hr').1
          rw [List.length_append, List.length_singleton]
          omega
        · rw [join_tz]
          exact ⟨⟨_, _, _, _, _, _, _, _, rfl⟩, X4.same sm⟩
    clear X4 hbp
    rintro σ' H4 ⟨⟨y4, y5, y7, y8, y9, y10, y11, y12, rfl⟩, X4⟩
    -- one of five
    refine ⟨fun σ' H' => ∃ z : List Nat, (∃ y4 y5 y7 y8 y9 y10 y11 y12, σ' = [some (.ref a), some (.ref fe), some (.ref np), some (.ref ln), y4, y5, some (.str (S z)), y7, y8, y9, y10, y11, y12]) ∧ S5 fe cf ln ls H' ∧ PgText z, ?_, ?_⟩
    · obtain ⟨t1, t2, t3, t4⟩ := pg_text lys hys
      have tl := t1.facts.1
      have hsl : (S (tz ys)).length ≤ sizeLine := by rw [S_len, sizeLine_eq]; omega
      have sl2 : ∀ k : Nat, k ≤ 10 → (tz ys).length + k ≤ sizeLine := fun k hk => by rw [sizeLine_eq]; omega
      refine ⟨.ref fe, rfl, .str (S (tz ys)), rfl, .str (S (tz ys)), rfl, .str (S (tz ys)), rfl, 1, rfl, -1, rfl, S (tz ys), rfl, hsl, .str (S (tz ys)), rfl, _, _, rfl, rfl, ?_, .str (S (tz ys)), rfl, _, _, rfl, rfl, ?_, (by show 5 ≤ sizeLine; decide), fun l nl => ?_⟩
      · rw [S_len, st_line, S_len]; exact sl2 1 (by decide)
      · rw [S_len, show (Str.ofString "a 1" : Str).length = 3 from by decide +kernel]; exact sl2 3 (by decide)
      have X5 := fun o => X4.same (same_new (o := o) nl)
      refine ⟨fe, cf, l, _, rfl, upd_same, X4.F.ne nl, (by show 1 ≤ 5; decide), (by show 5 ≤ 1000; decide), (X5 _).F, fun v H6 hv k6 F6 => ?_⟩
      obtain ⟨z, rfl, hz⟩ : ∃ z, v = .str (S z) ∧ PgText z := by
        simp only [List.mem_cons, List.mem_nil_iff, or_false] at hv
        rcases hv with h | h | h | h | h
        · exact ⟨_, h, t1⟩
        · exact ⟨_, h, t1⟩
        · exact ⟨_, by rw [h, cut_drop], t2⟩
        · exact ⟨_, by rw [h, st_line, S_cat], t3⟩
        · exact ⟨_, by rw [h, show (Str.ofString "a 1" : Str) = S [97, 32, 49] from TL.ext_tl (by rw [TL.tl_ofString]; rfl), S_cat], t4⟩
      exact ⟨z, ⟨_, _, _, _, _, _, _, _, rfl⟩, (X5 _).kp nln k6 F6, hz⟩
    clear X4
    rintro σ' H4 ⟨z, ⟨y4, y5, y7, y8, y9, y10, y11, y12, rfl⟩, X4, hz⟩
    obtain ⟨f1, f2, f3⟩ := hz.facts
    -- what is due
    refine ⟨fun σ' H' => (∃ y4 y5 y8 y9 y10 y11 y12, σ' = [some (.ref a), some (.ref fe), some (.ref np), some (.ref ln), y4, y5, some (.str (S z)), some (pgV z), y8, y9, y10, y11, y12]) ∧ S5 fe cf ln ls H', ?_, ?_⟩
    · exact ⟨.str (S z), rfl, z, rfl, f1, f2, f3, fun H5 s5 => ⟨⟨_, _, _, _, _, _, _, rfl⟩, X4.same s5⟩⟩
    clear X4
    rintro σ' H4 ⟨⟨y4, y5, y8, y9, y10, y11, y12, rfl⟩, X4⟩
    -- what is found
    refine ⟨fun σ' H' => ∃ v8 v9 : V, (∃ y4 y5 y10 y11 y12, σ' = [some (.ref a), some (.ref fe), some (.ref np), some (.ref ln), y4, y5, some (.str (S z)), some (pgV z), some v8, some v9, y10, y11, y12]) ∧ S5 fe cf ln ls H' ∧
      ((∃ k : Nat, pgF z = some k ∧ v8 = .int (k : Int)) ∨ (pgF z = none ∧ v8 = .str "none" ∧ ∃ (y : Addr) (kvs : List (Key × V)), v9 = .ref y ∧ YdK CY CS H' y kvs ∧ Stk H' kvs (linesOf z).dropLast)), ?_, ?_⟩
    · refine ⟨.str (S z), rfl, z, rfl, f1, f2, f3, fun k hk H5 d s5 nd hd => ⟨true, T.te, fun _ ea nea => ?_, fun z => Bool.noConfusion z⟩, fun hn H5 y kvs s5 ny hY hSt => ?_⟩
      · exact ⟨.ref ea, rfl, rfl, rfl, d, _, .int (k : Int), rfl, hd, rfl, _, _, ⟨_, _, _, _, _, rfl⟩, X4.same s5, .inl ⟨k, hk, rfl⟩⟩
      · exact ⟨_, _, ⟨_, _, _, _, _, rfl⟩, X4.same s5, .inr ⟨hn, rfl, y, kvs, rfl, hY, hSt⟩⟩
    clear X4
    rintro σ' H4 ⟨v8, v9, ⟨y4, y5, y10, y11, y12, rfl⟩, X4, hcase⟩
    rcases hcase with ⟨k, hk, rfl⟩ | ⟨hn, rfl, y, kvs, rfl, hY, hSt⟩
    · have eV : pgV z = .int (k : Int) := by unfold pgV; rw [hk]
      rw [eV]
      refine ⟨.int (k : Int), rfl, .int (k : Int), rfl, rfl, _, rfl, iteF ⟨.int (k : Int), rfl, _, _, rfl, ⟨rfl, rfl⟩, fun H5 s5 => ⟨_, rfl, iteF ?_⟩⟩⟩
      exact ⟨.int (k : Int), rfl, rfl, _, rfl, iteF ⟨⟨_, _, _, _, _, _, _, _, _, rfl⟩, X4.same s5⟩⟩
    · have eV : pgV z = .non := by unfold pgV; rw [hn]
      rw [eV]
      refine ⟨.str "none", rfl, .non, rfl, rfl, _, rfl, iteT ⟨_, _, rfl, ⟨rfl, rfl⟩, fun H5 s5 => ⟨_, rfl, iteF ?_⟩⟩⟩
      obtain ⟨pb1, pb2, pb3⟩ := page_back hn
      have hY5 := hY.same s5
      have hL5 := stk_ls (hSt.same s5)
      refine ⟨.non, rfl, rfl, _, rfl, iteT ⟨.ref y, rfl, y, kvs, psOf (linesOf z).dropLast, rfl, hY5, hL5, ?_, ?_, ?_, fun H6 s6 => ⟨.str (S z), rfl, rfl, _, rfl, ?_⟩⟩⟩
      · unfold psOf; rw [List.length_map]; exact pgG_few pb2
      · unfold psOf
        rw [List.map_map]
        exact pgG_rise pb2
      · intro p hp
        unfold psOf at hp
        obtain ⟨u, hu, rfl⟩ := List.mem_map.mp hp
        obtain ⟨e1, e2, e3⟩ := pgG_each pb2 u hu
        refine ⟨?_, e3⟩
        unfold isNm at e1
        rw [Bool.and_eq_true] at e1
        have := (of_decide_eq_true e1.1).2
        show (nmOf u).length ≤ 100
        omega
      · rw [← pb1, decide_eq_true rfl]
        have hY6 := hY5.same s6
        obtain ⟨dy, sh, dx, st, so, fs, evs, l, h1, _⟩ := id hY6
        have kl : kvs.length ≤ 8 := by
          rw [hSt.1]
          exact pgG_few pb2
        refine iteF ⟨.ref y, rfl, y, dy, _, rfl, h1, y, kvs, rfl, hY6, _, rfl, ⟨by omega, by omega⟩, .str (S z), rfl, ⟨_, rfl⟩, S z, _, rfl, rfl, by decide +kernel, by rw [S_len, sizeLine_eq]; omega, fun la nla => ?_⟩
        rw [sp_line]
        have sl := same_new (o := .lst (((linesOf z).map S).map V.str)) nla
        refine ⟨la, _, rfl, .inl (SqL.of upd_same), _, 1, rfl, rfl, rfl, _, rfl, ?_⟩
        rw [List.length_map, List.length_map, pb3, hSt.1, decide_eq_true (congrArg V.int (by omega))]
        exact iteF ⟨⟨_, _, _, _, _, _, _, _, _, rfl⟩, ((X4.same s5).same s6).same sl⟩
end
end HL

namespace HL
open PySem PySem.Spec PyProof.Rows L2
open LamX (Tabs TabS TabB LawAtS)
abbrev sSh (j : Nat) : Stmt := inClass (topS 16) j
/-- whether an error of the class T is what an except clause of S takes -/
theorem exm_by {K : PySem.W.Frag} {S T : Addr} {b : Bool} (h1 : PySem.W.subIn K (.ref S) (.type "BaseException") = some true) (h2 : PySem.W.isClsIn K S = true) (h3 : PySem.W.typeIn K (.ref S) = some (.type "type"))
    (h4 : PySem.W.subIn K (.ref T) (.ref S) = some b) : PySem.W.exmOne K (.ref T) (.ref S) = some b := by
  have e1 : (PySem.W.subIn K (.ref S) (.type "BaseException") == some true) = true := by rw [h1] <;> rfl
  have e2 : ((PySem.W.clsIn K S).isSome && PySem.W.typeIn K (.ref S) == some (.type "type")) = true := by
    have h2' : (PySem.W.clsIn K S).isSome = true := h2
    rw [h2', h3] <;> rfl
  show (if (PySem.W.subIn K (.ref S) (.type "BaseException") == some true) = true then (if ((PySem.W.clsIn K S).isSome && PySem.W.typeIn K (.ref S) == some (.type "type")) = true then PySem.W.subIn K (.ref T) (.ref S) else none) else none) = some b
  rw [if_pos e1, if_pos e2]
  exact h4
theorem rev_vals {zs : List V} {ws : List Value} (r : Vals zs ws) : Vals zs.reverse ws.reverse := by
  induction r with
  | nil => exact .nil
  | cons r t ih =>
    rw [List.reverse_cons, List.reverse_cons]
    exact ih.append (.cons r .nil)
theorem exm_two {K : PySem.W.Frag} {cls c1 c2 : Value} {a b : Bool} (h1 : PySem.W.exmOne K cls c1 = some a) (h2 : PySem.W.exmOne K cls c2 = some b) : PySem.W.exmAny K cls [c1, c2] = some (a || (b || false)) := by
  unfold PySem.W.exmAny
  rw [h1]
  unfold PySem.W.exmAny
  rw [h2]
  rfl
theorem all_mk {l : PySem.W.OpenLaw} {w : World} {K : PySem.W.Frag} {h : Heap} {mg : Str → Option Value} {fa : Addr} (X : K.In h) (G : h.Ns mainGlobals mg) (hfa : mg "law" = some (.ref fa))
    {f0 : Addr} {oc0 kV0 dc0 pm0 cd0 ct0 : Value} {od0 an0 : Option Addr} {sl0 : Array (Option Value)}
    {f1 : Addr} {oc1 kV1 dc1 pm1 cd1 ct1 : Value} {od1 an1 : Option Addr} {sl1 : Array (Option Value)}
    {f2 : Addr} {oc2 kV2 dc2 pm2 cd2 ct2 : Value} {od2 an2 : Option Addr} {sl2 : Array (Option Value)}
    {f3 : Addr} {oc3 kV3 dc3 pm3 cd3 ct3 : Value} {od3 an3 : Option Addr} {sl3 : Array (Option Value)}
    {f4 : Addr} {oc4 kV4 dc4 pm4 cd4 ct4 : Value} {od4 an4 : Option Addr} {sl4 : Array (Option Value)}
    {f5 : Addr} {oc5 kV5 dc5 pm5 cd5 ct5 : Value} {od5 an5 : Option Addr} {sl5 : Array (Option Value)}
    {f6 : Addr} {oc6 kV6 dc6 pm6 cd6 ct6 : Value} {od6 an6 : Option Addr} {sl6 : Array (Option Value)}
    {f7 : Addr} {oc7 kV7 dc7 pm7 cd7 ct7 : Value} {od7 an7 : Option Addr} {sl7 : Array (Option Value)}
    {f8 : Addr} {oc8 kV8 dc8 pm8 cd8 ct8 : Value} {od8 an8 : Option Addr} {sl8 : Array (Option Value)}
    {f9 : Addr} {oc9 kV9 dc9 pm9 cd9 ct9 : Value} {od9 an9 : Option Addr} {sl9 : Array (Option Value)}
    {f10 : Addr} {oc10 kV10 dc10 pm10 cd10 ct10 : Value} {od10 an10 : Option Addr} {sl10 : Array (Option Value)}
    {f11 : Addr} {oc11 kV11 dc11 pm11 cd11 ct11 : Value} {od11 an11 : Option Addr} {sl11 : Array (Option Value)}
    {f12 : Addr} {oc12 kV12 dc12 pm12 cd12 ct12 : Value} {od12 an12 : Option Addr} {sl12 : Array (Option Value)}
    {f13 : Addr} {oc13 kV13 dc13 pm13 cd13 ct13 : Value} {od13 an13 : Option Addr} {sl13 : Array (Option Value)}
    {f14 : Addr} {oc14 kV14 dc14 pm14 cd14 ct14 : Value} {od14 an14 : Option Addr} {sl14 : Array (Option Value)}
    {f15 : Addr} {oc15 kV15 dc15 pm15 cd15 ct15 : Value} {od15 an15 : Option Addr} {sl15 : Array (Option Value)}
    {f16 : Addr} {oc16 kV16 dc16 pm16 cd16 ct16 : Value} {od16 an16 : Option Addr} {sl16 : Array (Option Value)}
    {f17 : Addr} {oc17 kV17 dc17 pm17 cd17 ct17 : Value} {od17 an17 : Option Addr} {sl17 : Array (Option Value)}
    {f18 : Addr} {oc18 kV18 dc18 pm18 cd18 ct18 : Value} {od18 an18 : Option Addr} {sl18 : Array (Option Value)}
    {f19 : Addr} {oc19 kV19 dc19 pm19 cd19 ct19 : Value} {od19 an19 : Option Addr} {sl19 : Array (Option Value)}
    {f20 : Addr} {oc20 kV20 dc20 pm20 cd20 ct20 : Value} {od20 an20 : Option Addr} {sl20 : Array (Option Value)}
    {f21 : Addr} {oc21 kV21 dc21 pm21 cd21 ct21 : Value} {od21 an21 : Option Addr} {sl21 : Array (Option Value)}
    {f22 : Addr} {oc22 kV22 dc22 pm22 cd22 ct22 : Value} {od22 an22 : Option Addr} {sl22 : Array (Option Value)}
    {f23 : Addr} {oc23 kV23 dc23 pm23 cd23 ct23 : Value} {od23 an23 : Option Addr} {sl23 : Array (Option Value)}
    {f24 : Addr} {oc24 kV24 dc24 pm24 cd24 ct24 : Value} {od24 an24 : Option Addr} {sl24 : Array (Option Value)}
    {f25 : Addr} {oc25 kV25 dc25 pm25 cd25 ct25 : Value} {od25 an25 : Option Addr} {sl25 : Array (Option Value)}
    {f26 : Addr} {oc26 kV26 dc26 pm26 cd26 ct26 : Value} {od26 an26 : Option Addr} {sl26 : Array (Option Value)}
    {f27 : Addr} {oc27 kV27 dc27 pm27 cd27 ct27 : Value} {od27 an27 : Option Addr} {sl27 : Array (Option Value)}
    {f28 : Addr} {oc28 kV28 dc28 pm28 cd28 ct28 : Value} {od28 an28 : Option Addr} {sl28 : Array (Option Value)}
    {f29 : Addr} {oc29 kV29 dc29 pm29 cd29 ct29 : Value} {od29 an29 : Option Addr} {sl29 : Array (Option Value)}
    {C1 CE1 fI1 N1 : Addr} {nm1 q1 : Str} {bs1 : List Value} {sn1 : List Str} {sub1 : List Value} {ab1 : Bool} {col1 : Option Bool} {dd1 : Option Addr} {m01 m11 m21 m31 m51 : Option Value} {ocI1 kVI1 dcI1 pmI1 cdI1 ctI1 : Value} {odI1 anI1 : Option Addr} {slI1 : Array (Option Value)}
    {C2 CE2 fI2 N2 : Addr} {nm2 q2 : Str} {bs2 : List Value} {sn2 : List Str} {sub2 : List Value} {ab2 : Bool} {col2 : Option Bool} {dd2 : Option Addr} {m02 m12 m22 m32 m52 : Option Value} {ocI2 kVI2 dcI2 pmI2 cdI2 ctI2 : Value} {odI2 anI2 : Option Addr} {slI2 : Array (Option Value)}
    {t6 : Tok}
    {t5 : Tok}
    {t3 : Tok}
    {tF : Tok}
    {tM : Tok}
    {tl : Tok}
    {t8 : Tok}
    {tL : Tok}
    {CY : Addr}
    {CS : Addr}
    {tkYI : Tok}
    {fYI DYI : Addr} {ocYI dcYI pmYI cdYI ctYI : Value} {odYI anYI : Option Addr} {slYI : Array (Option Value)}
    {fSI : Addr} {ocSI kVSI dcSI pmSI cdSI ctSI : Value} {odSI anSI : Option Addr} {slSI : Array (Option Value)}
    {fYN : Addr} {ocYN kVYN dcYN pmYN cdYN ctYN : Value} {odYN anYN : Option Addr} {slYN : Array (Option Value)}
    {fYLn : Addr} {ocYLn kVYLn dcYLn pmYLn cdYLn ctYLn : Value} {odYLn anYLn : Option Addr} {slYLn : Array (Option Value)}
    {fYS : Addr} {ocYS kVYS dcYS pmYS cdYS ctYS : Value} {odYS anYS : Option Addr} {slYS : Array (Option Value)}
    (a0 : PySem.W.nsIn K mainGlobals "is_hold" = some (some (.ref f0)))
    (l0 : K.lookup f0 = some ⟨oc0, od0, .func (PySem.W.fnOf "is_hold" "is_hold" (defArgs sIsHold) (defBody sIsHold) (defScope sIsHold) .none kV0 dc0 pm0 an0 cd0 ct0), sl0⟩)
    (c0 : PySem.W.codeIn K cd0 "is_hold" = true)
    (k0 : PySem.W.keepIn K (.ref f0) = true)
    (a1 : PySem.W.nsIn K mainGlobals "look_lot" = some (some (.ref f1)))
    (l1 : K.lookup f1 = some ⟨oc1, od1, .func (PySem.W.fnOf "look_lot" "look_lot" (defArgs sLook) (defBody sLook) (defScope sLook) .none kV1 dc1 pm1 an1 cd1 ct1), sl1⟩)
    (c1 : PySem.W.codeIn K cd1 "look_lot" = true)
    (k1 : PySem.W.keepIn K (.ref f1) = true)
    (a2 : PySem.W.nsIn K mainGlobals "lay_down" = some (some (.ref f2)))
    (l2 : K.lookup f2 = some ⟨oc2, od2, .func (PySem.W.fnOf "lay_down" "lay_down" (defArgs sLayDown) (defBody sLayDown) (defScope sLayDown) .none kV2 dc2 pm2 an2 cd2 ct2), sl2⟩)
    (c2 : PySem.W.codeIn K cd2 "lay_down" = true)
    (k2 : PySem.W.keepIn K (.ref f2) = true)
    (a3 : PySem.W.nsIn K mainGlobals "is_name" = some (some (.ref f3)))
    (l3 : K.lookup f3 = some ⟨oc3, od3, .func (PySem.W.fnOf "is_name" "is_name" (defArgs sIsName) (defBody sIsName) (defScope sIsName) .none kV3 dc3 pm3 an3 cd3 ct3), sl3⟩)
    (c3 : PySem.W.codeIn K cd3 "is_name" = true)
    (k3 : PySem.W.keepIn K (.ref f3) = true)
    (a4 : PySem.W.nsIn K mainGlobals "row_text" = some (some (.ref f4)))
    (l4 : K.lookup f4 = some ⟨oc4, od4, .func (PySem.W.fnOf "row_text" "row_text" (defArgs sRowText) (defBody sRowText) (defScope sRowText) .none kV4 dc4 pm4 an4 cd4 ct4), sl4⟩)
    (c4 : PySem.W.codeIn K cd4 "row_text" = true)
    (k4 : PySem.W.keepIn K (.ref f4) = true)
    (a5 : PySem.W.nsIn K mainGlobals "is_number" = some (some (.ref f5)))
    (l5 : K.lookup f5 = some ⟨oc5, od5, .func (PySem.W.fnOf "is_number" "is_number" (defArgs sIsNum) (defBody sIsNum) (defScope sIsNum) .none kV5 dc5 pm5 an5 cd5 ct5), sl5⟩)
    (c5 : PySem.W.codeIn K cd5 "is_number" = true)
    (k5 : PySem.W.keepIn K (.ref f5) = true)
    (a6 : PySem.W.nsIn K mainGlobals "read_row" = some (some (.ref f6)))
    (l6 : K.lookup f6 = some ⟨oc6, od6, .func (PySem.W.fnOf "read_row" "read_row" (defArgs sReadRow) (defBody sReadRow) (defScope sReadRow) .none kV6 dc6 pm6 an6 cd6 ct6), sl6⟩)
    (c6 : PySem.W.codeIn K cd6 "read_row" = true)
    (k6 : PySem.W.keepIn K (.ref f6) = true)
    (a7 : PySem.W.nsIn K mainGlobals "lot_text" = some (some (.ref f7)))
    (l7 : K.lookup f7 = some ⟨oc7, od7, .func (PySem.W.fnOf "lot_text" "lot_text" (defArgs sLotText) (defBody sLotText) (defScope sLotText) .none kV7 dc7 pm7 an7 cd7 ct7), sl7⟩)
    (c7 : PySem.W.codeIn K cd7 "lot_text" = true)
    (k7 : PySem.W.keepIn K (.ref f7) = true)
    (a8 : PySem.W.nsIn K mainGlobals "read_lot" = some (some (.ref f8)))
    (l8 : K.lookup f8 = some ⟨oc8, od8, .func (PySem.W.fnOf "read_lot" "read_lot" (defArgs sReadLot) (defBody sReadLot) (defScope sReadLot) .none kV8 dc8 pm8 an8 cd8 ct8), sl8⟩)
    (c8 : PySem.W.codeIn K cd8 "read_lot" = true)
    (k8 : PySem.W.keepIn K (.ref f8) = true)
    (a9 : PySem.W.nsIn K mainGlobals "yard_of" = some (some (.ref f9)))
    (l9 : K.lookup f9 = some ⟨oc9, od9, .func (PySem.W.fnOf "yard_of" "yard_of" (defArgs sYardOf) (defBody sYardOf) (defScope sYardOf) .none kV9 dc9 pm9 an9 cd9 ct9), sl9⟩)
    (c9 : PySem.W.codeIn K cd9 "yard_of" = true)
    (k9 : PySem.W.keepIn K (.ref f9) = true)
    (a10 : PySem.W.nsIn K mainGlobals "page" = some (some (.ref f10)))
    (l10 : K.lookup f10 = some ⟨oc10, od10, .func (PySem.W.fnOf "page" "page" (defArgs sPage) (defBody sPage) (defScope sPage) .none kV10 dc10 pm10 an10 cd10 ct10), sl10⟩)
    (c10 : PySem.W.codeIn K cd10 "page" = true)
    (k10 : PySem.W.keepIn K (.ref f10) = true)
    (a11 : PySem.W.nsIn K mainGlobals "lot_in_line" = some (some (.ref f11)))
    (l11 : K.lookup f11 = some ⟨oc11, od11, .func (PySem.W.fnOf "lot_in_line" "lot_in_line" (defArgs sLotInLine) (defBody sLotInLine) (defScope sLotInLine) .none kV11 dc11 pm11 an11 cd11 ct11), sl11⟩)
    (c11 : PySem.W.codeIn K cd11 "lot_in_line" = true)
    (k11 : PySem.W.keepIn K (.ref f11) = true)
    (a12 : PySem.W.nsIn K mainGlobals "read_page" = some (some (.ref f12)))
    (l12 : K.lookup f12 = some ⟨oc12, od12, .func (PySem.W.fnOf "read_page" "read_page" (defArgs sReadPage) (defBody sReadPage) (defScope sReadPage) .none kV12 dc12 pm12 an12 cd12 ct12), sl12⟩)
    (c12 : PySem.W.codeIn K cd12 "read_page" = true)
    (k12 : PySem.W.keepIn K (.ref f12) = true)
    (a13 : PySem.W.nsIn K mainGlobals "_law_feed" = some (some (.ref f13)))
    (l13 : K.lookup f13 = some ⟨oc13, od13, .func (PySem.W.fnOf "_law_feed" "_law_feed" (defArgs sFeed) (defBody sFeed) (defScope sFeed) .none kV13 dc13 pm13 an13 cd13 ct13), sl13⟩)
    (c13 : PySem.W.codeIn K cd13 "_law_feed" = true)
    (k13 : PySem.W.keepIn K (.ref f13) = true)
    (a14 : PySem.W.nsIn K mainGlobals "_law_draw" = some (some (.ref f14)))
    (l14 : K.lookup f14 = some ⟨oc14, od14, .func (PySem.W.fnOf "_law_draw" "_law_draw" (defArgs sDraw) (defBody sDraw) (defScope sDraw) .none kV14 dc14 pm14 an14 cd14 ct14), sl14⟩)
    (c14 : PySem.W.codeIn K cd14 "_law_draw" = true)
    (k14 : PySem.W.keepIn K (.ref f14) = true)
    (a15 : PySem.W.nsIn K mainGlobals "_law_pick" = some (some (.ref f15)))
    (l15 : K.lookup f15 = some ⟨oc15, od15, .func (PySem.W.fnOf "_law_pick" "_law_pick" (defArgs sPick) (defBody sPick) (defScope sPick) .none kV15 dc15 pm15 an15 cd15 ct15), sl15⟩)
    (c15 : PySem.W.codeIn K cd15 "_law_pick" = true)
    (k15 : PySem.W.keepIn K (.ref f15) = true)
    (a16 : PySem.W.nsIn K mainGlobals "_law_same" = some (some (.ref f16)))
    (l16 : K.lookup f16 = some ⟨oc16, od16, .func (PySem.W.fnOf "_law_same" "_law_same" (defArgs sSame) (defBody sSame) (defScope sSame) .none kV16 dc16 pm16 an16 cd16 ct16), sl16⟩)
    (c16 : PySem.W.codeIn K cd16 "_law_same" = true)
    (k16 : PySem.W.keepIn K (.ref f16) = true)
    (a17 : PySem.W.nsIn K mainGlobals "_law_hold" = some (some (.ref f17)))
    (l17 : K.lookup f17 = some ⟨oc17, od17, .func (PySem.W.fnOf "_law_hold" "_law_hold" (defArgs sHold) (defBody sHold) (defScope sHold) .none kV17 dc17 pm17 an17 cd17 ct17), sl17⟩)
    (c17 : PySem.W.codeIn K cd17 "_law_hold" = true)
    (k17 : PySem.W.keepIn K (.ref f17) = true)
    (a18 : PySem.W.nsIn K mainGlobals "_law_lot" = some (some (.ref f18)))
    (l18 : K.lookup f18 = some ⟨oc18, od18, .func (PySem.W.fnOf "_law_lot" "_law_lot" (defArgs sLot) (defBody sLot) (defScope sLot) .none kV18 dc18 pm18 an18 cd18 ct18), sl18⟩)
    (c18 : PySem.W.codeIn K cd18 "_law_lot" = true)
    (k18 : PySem.W.keepIn K (.ref f18) = true)
    (a19 : PySem.W.nsIn K mainGlobals "_law_any_lot" = some (some (.ref f19)))
    (l19 : K.lookup f19 = some ⟨oc19, od19, .func (PySem.W.fnOf "_law_any_lot" "_law_any_lot" (defArgs sAny) (defBody sAny) (defScope sAny) .none kV19 dc19 pm19 an19 cd19 ct19), sl19⟩)
    (c19 : PySem.W.codeIn K cd19 "_law_any_lot" = true)
    (k19 : PySem.W.keepIn K (.ref f19) = true)
    (a20 : PySem.W.nsIn K mainGlobals "_law_row_text" = some (some (.ref f20)))
    (l20 : K.lookup f20 = some ⟨oc20, od20, .func (PySem.W.fnOf "_law_row_text" "_law_row_text" (defArgs sRowTextL) (defBody sRowTextL) (defScope sRowTextL) .none kV20 dc20 pm20 an20 cd20 ct20), sl20⟩)
    (c20 : PySem.W.codeIn K cd20 "_law_row_text" = true)
    (k20 : PySem.W.keepIn K (.ref f20) = true)
    (a21 : PySem.W.nsIn K mainGlobals "_law_lot_text" = some (some (.ref f21)))
    (l21 : K.lookup f21 = some ⟨oc21, od21, .func (PySem.W.fnOf "_law_lot_text" "_law_lot_text" (defArgs sLotTextL) (defBody sLotTextL) (defScope sLotTextL) .none kV21 dc21 pm21 an21 cd21 ct21), sl21⟩)
    (c21 : PySem.W.codeIn K cd21 "_law_lot_text" = true)
    (k21 : PySem.W.keepIn K (.ref f21) = true)
    (a22 : PySem.W.nsIn K mainGlobals "_law_names" = some (some (.ref f22)))
    (l22 : K.lookup f22 = some ⟨oc22, od22, .func (PySem.W.fnOf "_law_names" "_law_names" (defArgs sNames) (defBody sNames) (defScope sNames) .none kV22 dc22 pm22 an22 cd22 ct22), sl22⟩)
    (c22 : PySem.W.codeIn K cd22 "_law_names" = true)
    (k22 : PySem.W.keepIn K (.ref f22) = true)
    (a23 : PySem.W.nsIn K mainGlobals "_law_is_lot" = some (some (.ref f23)))
    (l23 : K.lookup f23 = some ⟨oc23, od23, .func (PySem.W.fnOf "_law_is_lot" "_law_is_lot" (defArgs sIsLot) (defBody sIsLot) (defScope sIsLot) .none kV23 dc23 pm23 an23 cd23 ct23), sl23⟩)
    (c23 : PySem.W.codeIn K cd23 "_law_is_lot" = true)
    (k23 : PySem.W.keepIn K (.ref f23) = true)
    (a24 : PySem.W.nsIn K mainGlobals "_law_is_name" = some (some (.ref f24)))
    (l24 : K.lookup f24 = some ⟨oc24, od24, .func (PySem.W.fnOf "_law_is_name" "_law_is_name" (defArgs sIsNameL) (defBody sIsNameL) (defScope sIsNameL) .none kV24 dc24 pm24 an24 cd24 ct24), sl24⟩)
    (c24 : PySem.W.codeIn K cd24 "_law_is_name" = true)
    (k24 : PySem.W.keepIn K (.ref f24) = true)
    (a25 : PySem.W.nsIn K mainGlobals "_law_number_in" = some (some (.ref f25)))
    (l25 : K.lookup f25 = some ⟨oc25, od25, .func (PySem.W.fnOf "_law_number_in" "_law_number_in" (defArgs sNumIn) (defBody sNumIn) (defScope sNumIn) .none kV25 dc25 pm25 an25 cd25 ct25), sl25⟩)
    (c25 : PySem.W.codeIn K cd25 "_law_number_in" = true)
    (k25 : PySem.W.keepIn K (.ref f25) = true)
    (a26 : PySem.W.nsIn K mainGlobals "_law_lot_in" = some (some (.ref f26)))
    (l26 : K.lookup f26 = some ⟨oc26, od26, .func (PySem.W.fnOf "_law_lot_in" "_law_lot_in" (defArgs sLotIn) (defBody sLotIn) (defScope sLotIn) .none kV26 dc26 pm26 an26 cd26 ct26), sl26⟩)
    (c26 : PySem.W.codeIn K cd26 "_law_lot_in" = true)
    (k26 : PySem.W.keepIn K (.ref f26) = true)
    (a27 : PySem.W.nsIn K mainGlobals "_law_read" = some (some (.ref f27)))
    (l27 : K.lookup f27 = some ⟨oc27, od27, .func (PySem.W.fnOf "_law_read" "_law_read" (defArgs sRead53) (defBody sRead53) (defScope sRead53) .none kV27 dc27 pm27 an27 cd27 ct27), sl27⟩)
    (c27 : PySem.W.codeIn K cd27 "_law_read" = true)
    (k27 : PySem.W.keepIn K (.ref f27) = true)
    (a28 : PySem.W.nsIn K mainGlobals "_law_bent" = some (some (.ref f28)))
    (l28 : K.lookup f28 = some ⟨oc28, od28, .func (PySem.W.fnOf "_law_bent" "_law_bent" (defArgs sBent) (defBody sBent) (defScope sBent) .none kV28 dc28 pm28 an28 cd28 ct28), sl28⟩)
    (c28 : PySem.W.codeIn K cd28 "_law_bent" = true)
    (k28 : PySem.W.keepIn K (.ref f28) = true)
    (a29 : PySem.W.nsIn K mainGlobals "law" = some (some (.ref f29)))
    (l29 : K.lookup f29 = some ⟨oc29, od29, .func (PySem.W.fnOf "law" "law" (defArgs sLaw) (defBody sLaw) (defScope sLaw) .none kV29 dc29 pm29 an29 cd29 ct29), sl29⟩)
    (c29 : PySem.W.codeIn K cd29 "law" = true)
    (k29 : PySem.W.keepIn K (.ref f29) = true)
    (aC1 : PySem.W.nsIn K mainGlobals "BadLot" = some (some (.ref C1)))
    (xL1 : K.lookup C1 = some (excClassObj nm1 q1 C1 N1 bs1 [.ref CE1, .type "ValueError", .type "Exception", .type "BaseException", .type "object"] true sn1 sub1 ab1 col1 dd1 m01 m11 m21 m31 m51 "ValueError.__new__"))
    (sa1 : PySem.W.findIn K (.ref C1) "__setattr__" = some (some (.builtin "object.__setattr__")))
    (ga1 : PySem.W.findIn K (.ref C1) "__getattribute__" = some (some (.builtin "BaseException.__getattribute__")))
    (gg1 : PySem.W.findIn K (.ref C1) "__getattr__" = some none)
    (nW1 : PySem.W.findIn K (.ref C1) "word" = some none)
    (nF1 : PySem.W.findIn K (.ref C1) "kind" = some none)
    (aI1 : PySem.W.findIn K (.ref C1) "__init__" = some (some (.ref fI1)))
    (tI1 : PySem.W.typeIn K (.ref fI1) = some (.type "function"))
    (lI1 : K.lookup fI1 = some ⟨ocI1, odI1, .func (PySem.W.fnOf "__init__" "BadLot.__init__" (defArgs sBadInit) (defBody sBadInit) (defScope sBadInit) .none kVI1 dcI1 pmI1 anI1 cdI1 ctI1), slI1⟩)
    (cI1 : PySem.W.codeIn K cdI1 "BadLot.__init__" = true)
    (kI1 : PySem.W.keepIn K (.ref fI1) = true)
    (kC1 : PySem.W.keepIn K (.ref C1) = true)
    (eC1 : PySem.W.subIn K (.ref C1) (.type "BaseException") = some true)
    (tC1 : PySem.W.typeIn K (.ref C1) = some (.type "type"))
    (hC1 : PySem.W.hasDictIn K C1 = true)
    (iC1 : PySem.W.isClsIn K C1 = true)
    (aC2 : PySem.W.nsIn K mainGlobals "BadText" = some (some (.ref C2)))
    (xL2 : K.lookup C2 = some (excClassObj nm2 q2 C2 N2 bs2 [.ref CE2, .type "ValueError", .type "Exception", .type "BaseException", .type "object"] true sn2 sub2 ab2 col2 dd2 m02 m12 m22 m32 m52 "ValueError.__new__"))
    (sa2 : PySem.W.findIn K (.ref C2) "__setattr__" = some (some (.builtin "object.__setattr__")))
    (ga2 : PySem.W.findIn K (.ref C2) "__getattribute__" = some (some (.builtin "BaseException.__getattribute__")))
    (gg2 : PySem.W.findIn K (.ref C2) "__getattr__" = some none)
    (nW2 : PySem.W.findIn K (.ref C2) "word" = some none)
    (nF2 : PySem.W.findIn K (.ref C2) "at" = some none)
    (aI2 : PySem.W.findIn K (.ref C2) "__init__" = some (some (.ref fI2)))
    (tI2 : PySem.W.typeIn K (.ref fI2) = some (.type "function"))
    (lI2 : K.lookup fI2 = some ⟨ocI2, odI2, .func (PySem.W.fnOf "__init__" "BadText.__init__" (defArgs sTextInit) (defBody sTextInit) (defScope sTextInit) .none kVI2 dcI2 pmI2 anI2 cdI2 ctI2), slI2⟩)
    (cI2 : PySem.W.codeIn K cdI2 "BadText.__init__" = true)
    (kI2 : PySem.W.keepIn K (.ref fI2) = true)
    (kC2 : PySem.W.keepIn K (.ref C2) = true)
    (eC2 : PySem.W.subIn K (.ref C2) (.type "BaseException") = some true)
    (tC2 : PySem.W.typeIn K (.ref C2) = some (.type "type"))
    (hC2 : PySem.W.hasDictIn K C2 = true)
    (iC2 : PySem.W.isClsIn K C2 = true)
    (s11 : PySem.W.subIn K (.ref C1) (.ref C1) = some true)
    (s22 : PySem.W.subIn K (.ref C2) (.ref C2) = some true)
    (s12 : PySem.W.subIn K (.ref C1) (.ref C2) = some false)
    (s21 : PySem.W.subIn K (.ref C2) (.ref C1) = some false)
    (v6 : PySem.W.nsIn K mainGlobals "MOST_HOLD" = some (some (.int 6 t6)))
    (v5 : PySem.W.nsIn K mainGlobals "MOST_KINDS" = some (some (.int 5 t5)))
    (v3 : PySem.W.nsIn K mainGlobals "MOST_GOODS" = some (some (.int 3 t3)))
    (vF : PySem.W.nsIn K mainGlobals "FIGURES" = some (some (.str "0123456789" tF)))
    (vM : PySem.W.nsIn K mainGlobals "MOST_FIGURES" = some (some (.int 30 tM)))
    (vl : PySem.W.nsIn K mainGlobals "LETTERS" = some (some (.str "abcdefghijklmnopqrstuvwxyz" tl)))
    (v8 : PySem.W.nsIn K mainGlobals "MOST_LETTERS" = some (some (.int 8 t8)))
    (vL : PySem.W.nsIn K mainGlobals "MOST_LOTS" = some (some (.int 8 tL)))
    (aCY : PySem.W.nsIn K mainGlobals "Yard" = some (some (.ref CY)))
    (pgCY : PySem.W.plainGet K CY Str.empty = true)
    (hdCY : PySem.W.hasDictIn K CY = true)
    (poCY : PySem.W.plainOver K CY = true)
    (saCY : PySem.W.findIn K (.ref CY) "__setattr__" = some (some (.builtin "object.__setattr__")))
    (mkCY : PySem.W.makesIn K CY = true)
    (kcCY : PySem.W.keepIn K (.ref CY) = true)
    (nCY0 : PySem.W.findIn K (.ref CY) "shelf" = some none)
    (nCY1 : PySem.W.findIn K (.ref CY) "past" = some none)
    (nCY2 : PySem.W.findIn K (.ref CY) "future" = some none)
    (nCY3 : PySem.W.findIn K (.ref CY) "tally" = some none)
    (aCS : PySem.W.nsIn K mainGlobals "Shelf" = some (some (.ref CS)))
    (pgCS : PySem.W.plainGet K CS Str.empty = true)
    (hdCS : PySem.W.hasDictIn K CS = true)
    (poCS : PySem.W.plainOver K CS = true)
    (saCS : PySem.W.findIn K (.ref CS) "__setattr__" = some (some (.builtin "object.__setattr__")))
    (mkCS : PySem.W.makesIn K CS = true)
    (kcCS : PySem.W.keepIn K (.ref CS) = true)
    (nCS0 : PySem.W.findIn K (.ref CS) "limit" = some none)
    (nCS1 : PySem.W.findIn K (.ref CS) "stock" = some none)
    (nCS2 : PySem.W.findIn K (.ref CS) "store" = some none)
    (aYI : PySem.W.findIn K (.ref CY) "__init__" = some (some (.ref fYI)))
    (iYI : PySem.W.isFn K (.ref fYI) = true)
    (lYI : K.lookup fYI = some ⟨ocYI, odYI, .func (PySem.W.fnOf "__init__" "Yard.__init__" (defArgs (sY 0)) (defBody (sY 0)) (defScope (sY 0)) .none (.ref DYI) dcYI pmYI anYI cdYI ctYI), slYI⟩)
    (cYI : PySem.W.codeIn K cdYI "Yard.__init__" = true)
    (kYI : PySem.W.keepIn K (.ref fYI) = true)
    (nDYI : PySem.W.nsIn K DYI "limit" = some (some (.int (8) tkYI)))
    (aSI : PySem.W.findIn K (.ref CS) "__init__" = some (some (.ref fSI)))
    (iSI : PySem.W.isFn K (.ref fSI) = true)
    (lSI : K.lookup fSI = some ⟨ocSI, odSI, .func (PySem.W.fnOf "__init__" "Shelf.__init__" (defArgs (sSh 0)) (defBody (sSh 0)) (defScope (sSh 0)) .none kVSI dcSI pmSI anSI cdSI ctSI), slSI⟩)
    (cSI : PySem.W.codeIn K cdSI "Shelf.__init__" = true)
    (kSI : PySem.W.keepIn K (.ref fSI) = true)
    (aYN : PySem.W.findIn K (.ref CY) "names" = some (some (.ref fYN)))
    (iYN : PySem.W.isFn K (.ref fYN) = true)
    (lYN : K.lookup fYN = some ⟨ocYN, odYN, .func (PySem.W.fnOf "names" "Yard.names" (defArgs (sY 13)) (defBody (sY 13)) (defScope (sY 13)) .none kVYN dcYN pmYN anYN cdYN ctYN), slYN⟩)
    (cYN : PySem.W.codeIn K cdYN "Yard.names" = true)
    (kYN : PySem.W.keepIn K (.ref fYN) = true)
    (aYLn : PySem.W.findIn K (.ref CY) "__len__" = some (some (.ref fYLn)))
    (iYLn : PySem.W.isFn K (.ref fYLn) = true)
    (lYLn : K.lookup fYLn = some ⟨ocYLn, odYLn, .func (PySem.W.fnOf "__len__" "Yard.__len__" (defArgs (sY 23)) (defBody (sY 23)) (defScope (sY 23)) .none kVYLn dcYLn pmYLn anYLn cdYLn ctYLn), slYLn⟩)
    (cYLn : PySem.W.codeIn K cdYLn "Yard.__len__" = true)
    (kYLn : PySem.W.keepIn K (.ref fYLn) = true)
    (aYS : PySem.W.findIn K (.ref CY) "__str__" = some (some (.ref fYS)))
    (iYS : PySem.W.isFn K (.ref fYS) = true)
    (lYS : K.lookup fYS = some ⟨ocYS, odYS, .func (PySem.W.fnOf "__str__" "Yard.__str__" (defArgs (sY 25)) (defBody (sY 25)) (defScope (sY 25)) .none kVYS dcYS pmYS anYS cdYS ctYS), slYS⟩)
    (cYS : PySem.W.codeIn K cdYS "Yard.__str__" = true)
    (kYS : PySem.W.keepIn K (.ref fYS) = true)
    (z_len : PySem.W.nsIn K mainGlobals "len" = some none)
    (z_list : PySem.W.nsIn K mainGlobals "list" = some none)
    (z_tuple : PySem.W.nsIn K mainGlobals "tuple" = some none)
    (z_dict : PySem.W.nsIn K mainGlobals "dict" = some none)
    (z_str : PySem.W.nsIn K mainGlobals "str" = some none)
    (z_int : PySem.W.nsIn K mainGlobals "int" = some none)
    (z_bool : PySem.W.nsIn K mainGlobals "bool" = some none)
    (z_isinstance : PySem.W.nsIn K mainGlobals "isinstance" = some none)
    (z_all : PySem.W.nsIn K mainGlobals "all" = some none)
    (z_range : PySem.W.nsIn K mainGlobals "range" = some none)
    (z_sum : PySem.W.nsIn K mainGlobals "sum" = some none)
    (z_min : PySem.W.nsIn K mainGlobals "min" = some none)
    (z_max : PySem.W.nsIn K mainGlobals "max" = some none)
    (z_enumerate : PySem.W.nsIn K mainGlobals "enumerate" = some none)
    (z_sorted : PySem.W.nsIn K mainGlobals "sorted" = some none)
    : LawAtS l w K CX0 10 63 "_law_script" mg fa h := by
  have e := hfa.symm.trans (PySem.W.mg_of X G a29)
  cases e
  have F0 := fun_mk (st := sIsHold) l0 c0 k0
  have b0 := F0.binds (ps := ["hold", "goods"]) fun _ _ _ _ _ _ us hl => match us, hl with | [_, _], _ => rfl
  have g0 := PySem.W.mg_of X G a0
  have F1 := fun_mk (st := sLook) l1 c1 k1
  have b1 := F1.binds (ps := ["lot"]) fun _ _ _ _ _ _ us hl => match us, hl with | [_], _ => rfl
  have g1 := PySem.W.mg_of X G a1
  have F2 := fun_mk (st := sLayDown) l2 c2 k2
  have b2 := F2.binds (ps := ["shelf", "name", "lot"]) fun _ _ _ _ _ _ us hl => match us, hl with | [_, _, _], _ => rfl
  have g2 := PySem.W.mg_of X G a2
  have F3 := fun_mk (st := sIsName) l3 c3 k3
  have b3 := F3.binds (ps := ["name"]) fun _ _ _ _ _ _ us hl => match us, hl with | [_], _ => rfl
  have g3 := PySem.W.mg_of X G a3
  have F4 := fun_mk (st := sRowText) l4 c4 k4
  have b4 := F4.binds (ps := ["row"]) fun _ _ _ _ _ _ us hl => match us, hl with | [_], _ => rfl
  have g4 := PySem.W.mg_of X G a4
  have F5 := fun_mk (st := sIsNum) l5 c5 k5
  have b5 := F5.binds (ps := ["word"]) fun _ _ _ _ _ _ us hl => match us, hl with | [_], _ => rfl
  have g5 := PySem.W.mg_of X G a5
  have F6 := fun_mk (st := sReadRow) l6 c6 k6
  have b6 := F6.binds (ps := ["text"]) fun _ _ _ _ _ _ us hl => match us, hl with | [_], _ => rfl
  have g6 := PySem.W.mg_of X G a6
  have F7 := fun_mk (st := sLotText) l7 c7 k7
  have b7 := F7.binds (ps := ["lot"]) fun _ _ _ _ _ _ us hl => match us, hl with | [_], _ => rfl
  have g7 := PySem.W.mg_of X G a7
  have F8 := fun_mk (st := sReadLot) l8 c8 k8
  have b8 := F8.binds (ps := ["text"]) fun _ _ _ _ _ _ us hl => match us, hl with | [_], _ => rfl
  have g8 := PySem.W.mg_of X G a8
  have F9 := fun_mk (st := sYardOf) l9 c9 k9
  have b9 := F9.binds (ps := ["stock"]) fun _ _ _ _ _ _ us hl => match us, hl with | [_], _ => rfl
  have g9 := PySem.W.mg_of X G a9
  have F10 := fun_mk (st := sPage) l10 c10 k10
  have b10 := F10.binds (ps := ["yard"]) fun _ _ _ _ _ _ us hl => match us, hl with | [_], _ => rfl
  have g10 := PySem.W.mg_of X G a10
  have F11 := fun_mk (st := sLotInLine) l11 c11 k11
  have b11 := F11.binds (ps := ["written", "at"]) fun _ _ _ _ _ _ us hl => match us, hl with | [_, _], _ => rfl
  have g11 := PySem.W.mg_of X G a11
  have F12 := fun_mk (st := sReadPage) l12 c12 k12
  have b12 := F12.binds (ps := ["text"]) fun _ _ _ _ _ _ us hl => match us, hl with | [_], _ => rfl
  have g12 := PySem.W.mg_of X G a12
  have F13 := fun_mk (st := sFeed) l13 c13 k13
  have b13 := F13.binds (ps := ["_law_script"]) fun _ _ _ _ _ _ us hl => match us, hl with | [_], _ => rfl
  have g13 := PySem.W.mg_of X G a13
  have F14 := fun_mk (st := sDraw) l14 c14 k14
  have b14 := F14.binds (ps := ["_law_feed_here", "_law_many"]) fun _ _ _ _ _ _ us hl => match us, hl with | [_, _], _ => rfl
  have g14 := PySem.W.mg_of X G a14
  have F15 := fun_mk (st := sPick) l15 c15 k15
  have b15 := F15.binds (ps := ["_law_feed_here", "_law_row"]) fun _ _ _ _ _ _ us hl => match us, hl with | [_, _], _ => rfl
  have g15 := PySem.W.mg_of X G a15
  have F16 := fun_mk (st := sSame) l16 c16 k16
  have b16 := F16.binds (ps := ["_law_found", "_law_due"]) fun _ _ _ _ _ _ us hl => match us, hl with | [_, _], _ => rfl
  have g16 := PySem.W.mg_of X G a16
  have F17 := fun_mk (st := sHold) l17 c17 k17
  have b17 := F17.binds (ps := ["_law_feed_here", "_law_goods", "_law_most"]) fun _ _ _ _ _ _ us hl => match us, hl with | [_, _, _], _ => rfl
  have g17 := PySem.W.mg_of X G a17
  have F18 := fun_mk (st := sLot) l18 c18 k18
  have b18 := F18.binds (ps := ["_law_feed_here", "_law_goods", "_law_kinds", "_law_most"]) fun _ _ _ _ _ _ us hl => match us, hl with | [_, _, _, _], _ => rfl
  have g18 := PySem.W.mg_of X G a18
  have F19 := fun_mk (st := sAny) l19 c19 k19
  have b19 := F19.binds (ps := ["_law_feed_here"]) fun _ _ _ _ _ _ us hl => match us, hl with | [_], _ => rfl
  have g19 := PySem.W.mg_of X G a19
  have F20 := fun_mk (st := sRowTextL) l20 c20 k20
  have b20 := F20.binds (ps := ["_law_row"]) fun _ _ _ _ _ _ us hl => match us, hl with | [_], _ => rfl
  have g20 := PySem.W.mg_of X G a20
  have F21 := fun_mk (st := sLotTextL) l21 c21 k21
  have b21 := F21.binds (ps := ["_law_lot_here"]) fun _ _ _ _ _ _ us hl => match us, hl with | [_], _ => rfl
  have g21 := PySem.W.mg_of X G a21
  have F22 := fun_mk (st := sNames) l22 c22 k22
  have b22 := F22.binds (ps := ["_law_feed_here", "_law_many"]) fun _ _ _ _ _ _ us hl => match us, hl with | [_, _], _ => rfl
  have g22 := PySem.W.mg_of X G a22
  have F23 := fun_mk (st := sIsLot) l23 c23 k23
  have b23 := F23.binds (ps := ["_law_lot_here"]) fun _ _ _ _ _ _ us hl => match us, hl with | [_], _ => rfl
  have g23 := PySem.W.mg_of X G a23
  have F24 := fun_mk (st := sIsNameL) l24 c24 k24
  have b24 := F24.binds (ps := ["_law_name"]) fun _ _ _ _ _ _ us hl => match us, hl with | [_], _ => rfl
  have g24 := PySem.W.mg_of X G a24
  have F25 := fun_mk (st := sNumIn) l25 c25 k25
  have b25 := F25.binds (ps := ["_law_word"]) fun _ _ _ _ _ _ us hl => match us, hl with | [_], _ => rfl
  have g25 := PySem.W.mg_of X G a25
  have F26 := fun_mk (st := sLotIn) l26 c26 k26
  have b26 := F26.binds (ps := ["_law_text"]) fun _ _ _ _ _ _ us hl => match us, hl with | [_], _ => rfl
  have g26 := PySem.W.mg_of X G a26
  have F27 := fun_mk (st := sRead53) l27 c27 k27
  have b27 := F27.binds (ps := ["_law_text"]) fun _ _ _ _ _ _ us hl => match us, hl with | [_], _ => rfl
  have g27 := PySem.W.mg_of X G a27
  have F28 := fun_mk (st := sBent) l28 c28 k28
  have b28 := F28.binds (ps := ["_law_feed_here", "_law_lines"]) fun _ _ _ _ _ _ us hl => match us, hl with | [_, _], _ => rfl
  have g28 := PySem.W.mg_of X G a28
  have F29 := fun_mk (st := sLaw) l29 c29 k29
  have b29 := F29.binds (ps := ["_law_script"]) fun _ _ _ _ _ _ us hl => match us, hl with | [_], _ => rfl
  have g29 := PySem.W.mg_of X G a29
  have FI1 := fun_mk (st := sBadInit) lI1 cI1 kI1
  have bI1 := FI1.binds (ps := ["self", "kind"]) fun _ _ _ _ _ _ us hl => match us, hl with | [_, _], _ => rfl
  have ox1 : OexC K C1 := ⟨⟨nm1, q1, N1, bs1, _, sn1, sub1, ab1, col1, dd1, m01, m11, m21, m31, m51, xL1, (show PySem.HandSPX.refsVE [.type "ValueError", .type "Exception", .type "BaseException", .type "object"] = true by decide +kernel)⟩, sa1, eC1, tC1, kC1⟩
  have kk1 : Cls2 K C1 "kind" := ⟨ox1, nW1, nF1⟩
  have FI2 := fun_mk (st := sTextInit) lI2 cI2 kI2
  have bI2 := FI2.binds (ps := ["self", "at"]) fun _ _ _ _ _ _ us hl => match us, hl with | [_, _], _ => rfl
  have ox2 : OexC K C2 := ⟨⟨nm2, q2, N2, bs2, _, sn2, sub2, ab2, col2, dd2, m02, m12, m22, m32, m52, xL2, (show PySem.HandSPX.refsVE [.type "ValueError", .type "Exception", .type "BaseException", .type "object"] = true by decide +kernel)⟩, sa2, eC2, tC2, kC2⟩
  have kk2 : Cls2 K C2 "at" := ⟨ox2, nW2, nF2⟩
  have TY : YdTxt K mg CY := ⟨⟨pgCY, hdCY, poCY, saCY⟩, nCY0, nCY1, nCY2, nCY3, PySem.W.mg_of X G aCY⟩
  have TSh : ShTxt K mg CS := ⟨⟨pgCS, hdCS, poCS, saCS⟩, nCS0, nCS1, nCS2, PySem.W.mg_of X G aCS⟩
  have mYI : Meth K CY "__init__" fYI := ⟨aYI, iYI, kYI⟩
  have kwYI : KwdV K (.ref DYI) [("limit", .int (8))] := .inr ⟨DYI, rfl, fun q hq => by
    rw [List.mem_singleton.mp hq]
    exact ⟨_, nDYI, ⟨_, rfl⟩⟩⟩
  have FYI : FunD K "__init__" "Yard.__init__" (defArgs (sY 0)) (defBody (sY 0)) (defScope (sY 0)) [] [("limit", .int (8))] fYI (PySem.W.fnOf "__init__" "Yard.__init__" (defArgs (sY 0)) (defBody (sY 0)) (defScope (sY 0)) .none (.ref DYI) dcYI pmYI anYI cdYI ctYI) :=
    ⟨⟨ocYI, odYI, .none, .ref DYI, dcYI, pmYI, anYI, cdYI, ctYI, slYI, rfl, lYI, cYI, .inl ⟨rfl, rfl⟩, kwYI⟩, kYI⟩
  obtain ⟨dsYI, rdYI, bYI⟩ := FYI.binds0 (ps := ["self", "limit"]) 1 (by simp) rfl (fun D doc pm an cdv ct us ks h1 h2 => by
    match us, ks, h1, h2 with
    | [u0], [k1], _, _ => exact ⟨_, _, _, _, _, _, rfl, rfl, rfl⟩)
  obtain ⟨ttYI, edYI⟩ : ∃ t, dsYI = [.int (8) t] := by
    cases rdYI with
    | cons r t =>
      cases t
      obtain ⟨q, rfl⟩ := r
      exact ⟨q, rfl⟩
  subst edYI
  have mSI : Meth K CS "__init__" fSI := ⟨aSI, iSI, kSI⟩
  have FSI := fun_mk (st := (sSh 0)) lSI cSI kSI
  have bSI := FSI.binds (ps := ["self", "limit"]) fun _ _ _ _ _ _ us hl => match us, hl with | [_, _], _ => rfl
  have mYN : Meth K CY "names" fYN := ⟨aYN, iYN, kYN⟩
  have FYN := fun_mk (st := (sY 13)) lYN cYN kYN
  have bYN := FYN.binds (ps := ["self"]) fun _ _ _ _ _ _ us hl => match us, hl with | [_], _ => rfl
  have mYLn : Meth K CY "__len__" fYLn := ⟨aYLn, iYLn, kYLn⟩
  have FYLn := fun_mk (st := (sY 23)) lYLn cYLn kYLn
  have bYLn := FYLn.binds (ps := ["self"]) fun _ _ _ _ _ _ us hl => match us, hl with | [_], _ => rfl
  have mYS : Meth K CY "__str__" fYS := ⟨aYS, iYS, kYS⟩
  have FYS := fun_mk (st := (sY 25)) lYS cYS kYS
  have bYS := FYS.binds (ps := ["self"]) fun _ _ _ _ _ _ us hl => match us, hl with | [_], _ => rfl
  have B : Bl mg := ⟨PySem.W.mg_none_of X G z_len, PySem.W.mg_none_of X G z_list, PySem.W.mg_none_of X G z_tuple, PySem.W.mg_none_of X G z_dict, PySem.W.mg_none_of X G z_str, PySem.W.mg_none_of X G z_int, PySem.W.mg_none_of X G z_bool, PySem.W.mg_none_of X G z_isinstance, PySem.W.mg_none_of X G z_all, PySem.W.mg_none_of X G z_range, PySem.W.mg_none_of X G z_sum, PySem.W.mg_none_of X G z_min, PySem.W.mg_none_of X G z_max, PySem.W.mg_none_of X G z_enumerate⟩
  refine ⟨PySem.W.fnOf "law" "law" (defArgs sLaw) (defBody sLaw) (defScope sLaw) .none kV29 dc29 pm29 an29 cd29 ct29, [], spLaw K, (fun p hp => by cases hp), (fun p hp => by cases hp), (fun p hp => by cases hp), fun s u => .of_eq rfl, fun H a ns hl _ hH hS => ⟨a, ns, rfl, hS, hl, fun _ => rfl⟩, fun base KB GB TB => ?_⟩
  · have nothing := True.intro
    have bad1 : BadTxt l.prog w K mg base "BadLot" C1 "kind" "bad lot" := ⟨kk1, PySem.W.mg_of X G aC1, fI1, _, aI1, tI1, ok_badInit FI1 kk1, bI1⟩
    have bad2 : BadTxt l.prog w K mg base "BadText" C2 "at" "bad text" := ⟨kk2, PySem.W.mg_of X G aC2, fI2, _, aI2, tI2, ok_textInit FI2 kk2, bI2⟩
    have M : Consts mg := ⟨⟨_, PySem.W.mg_of X G v6⟩, ⟨_, PySem.W.mg_of X G v5⟩, ⟨_, PySem.W.mg_of X G v3⟩⟩
    have MT : ConstsT mg := ⟨⟨_, PySem.W.mg_of X G vF⟩, ⟨_, PySem.W.mg_of X G vM⟩⟩
    have MY : ConstsY mg := ⟨⟨_, PySem.W.mg_of X G vl⟩, ⟨_, PySem.W.mg_of X G v8⟩⟩
    have e11 := exm_by eC1 iC1 tC1 s11
    have e12 := exm_by eC2 iC2 tC2 s12
    have e21 := exm_by eC1 iC1 tC1 s21
    have e22 := exm_by eC2 iC2 tC2 s22
    have mT : PySem.W.exmAny K (.ref C2) [.ref C2, .ref C1] = some true := exm_two e22 e21
    have mB : PySem.W.exmAny K (.ref C1) [.ref C2, .ref C1] = some true := exm_two e12 e11
    have cDraw : Cal l.prog w K mg base CX0 1 "_law_draw" ["_law_feed_here", "_law_many"] spDraw := ⟨⟨f14, _, ok_draw F14 B.len, g14, k14, b14⟩⟩
    have cPick : Cal l.prog w K mg base CX0 2 "_law_pick" ["_law_feed_here", "_law_row"] spPick := ⟨⟨f15, _, ok_pick F15 B.len cDraw, g15, k15, b15⟩⟩
    have cHold : Cal l.prog w K mg base CX0 2 "_law_hold" ["_law_feed_here", "_law_goods", "_law_most"] spHold := ⟨⟨f17, _, ok_hold F17 B cDraw, g17, k17, b17⟩⟩
    have cLot : Cal l.prog w K mg base CX0 3 "_law_lot" ["_law_feed_here", "_law_goods", "_law_kinds", "_law_most"] spLot := ⟨⟨f18, _, ok_lot F18 B cDraw cHold, g18, k18, b18⟩⟩
    have cIH : Cal l.prog w K mg base CX0 1 "is_hold" ["hold", "goods"] spIsHold := ⟨⟨f0, _, ok_isHold F0 B M, g0, k0, b0⟩⟩
    have cLk : Cal l.prog w K mg base (L2N.CX l.prog w) 3 "look_lot" ["lot"] (spLook C1) := ⟨⟨f1, _, ok_look F1 B M bad1 cIH, g1, k1, b1⟩⟩
    have cL0 : Cal l.prog w K mg base CX0 2 "look_lot" ["lot"] spLook0 := ⟨⟨f1, _, ok_look0 F1 B M cIH, g1, k1, b1⟩⟩
    have cRT : Cal l.prog w K mg base CX0 1 "row_text" ["row"] (spRowText K) := ⟨⟨f4, _, ok_rowText F4 B, g4, k4, b4⟩⟩
    have cRTL : Cal l.prog w K mg base CX0 1 "_law_row_text" ["_law_row"] (spRowText K) := ⟨⟨f20, _, ok_rowTextL F20 B, g20, k20, b20⟩⟩
    have cIN : Cal l.prog w K mg base CX0 1 "is_number" ["word"] spIsNum := ⟨⟨f5, _, ok_isNum F5 B MT, g5, k5, b5⟩⟩
    have cRR : Cal l.prog w K mg base (L2N.CX l.prog w) 3 "read_row" ["text"] (spReadRow C2) := ⟨⟨f6, _, ok_readRow F6 B bad2 cIN, g6, k6, b6⟩⟩
    have cRL : Cal l.prog w K mg base (L2N.CX l.prog w) 4 "read_lot" ["text"] (spReadLot C2 C1) := ⟨⟨f8, _, ok_readLot F8 B cLk cRR, g8, k8, b8⟩⟩
    have cLL : Cal l.prog w K mg base (L2.CX l.prog w) 6 "lot_in_line" ["written", "at"] (spLotInLine C2) := ⟨⟨f11, _, ok_lotInLine F11 kk2 (PySem.W.mg_of X G aC2) (PySem.W.mg_of X G aC1) aI2 tI2 FI2 mT mB cRL, g11, k11, b11⟩⟩
    have cNm : Cal l.prog w K mg base CX0 1 "is_name" ["name"] spIsNm := ⟨⟨f3, _, ok_isNm F3 B MY, g3, k3, b3⟩⟩
    have cLD : Cal l.prog w K mg base CX0 1 "lay_down" ["shelf", "name", "lot"] (spLayD CS) := ⟨⟨f2, _, ok_layDown F2 TSh, g2, k2, b2⟩⟩
    have MS : MkS l.prog w K mg base CS 1 := ⟨TSh, fSI, _, ok_shI FSI TSh, ⟨mkCS, aSI, iSI, kcCS⟩, bSI⟩
    have MY2 : MkY l.prog w K mg base CY CS := ⟨TY, TSh, fYI, _, _, ok_yI FYI TY MS, ⟨mkCY, aYI, iYI, kcCY⟩, bYI⟩
    have cYo : Cal l.prog w K mg base CX0 5 "yard_of" ["stock"] (spYardOf CY CS) := ⟨⟨f9, _, ok_yardOf F9 MY2 cLD, g9, k9, b9⟩⟩
    have cLT0 : Cal l.prog w K mg base CX0 3 "lot_text" ["lot"] spLotText0 := ⟨⟨f7, _, ok_lotText0 F7 cL0 cRT, g7, k7, b7⟩⟩
    have mYN : MCal l.prog w K mg base CX0 1 CY "names" ["self"] (spYNames CY CS) := ⟨fYN, _, ok_yNames FYN TY TSh (PySem.W.mg_none_of X G z_sorted), mYN, bYN⟩
    have mYS : MCal l.prog w K mg base CX0 4 CY "__str__" ["self"] (spYStr CY CS) := ⟨fYS, _, ok_yStr FYS TY TSh mYN cLT0, mYS, bYS⟩
    have mYL : MCal l.prog w K mg base CX0 1 CY "__len__" ["self"] (spYLen CY CS) := ⟨fYLn, _, ok_yLen FYLn B TY TSh, mYLn, bYLn⟩
    have cNI : Cal l.prog w K mg base CX0 1 "_law_number_in" ["_law_word"] spNumIn := ⟨⟨f25, _, ok_numIn F25 B, g25, k25, b25⟩⟩
    have cIL : Cal l.prog w K mg base CX0 1 "_law_is_lot" ["_law_lot_here"] spIsLot := ⟨⟨f23, _, ok_isLot F23 B, g23, k23, b23⟩⟩
    have cNL : Cal l.prog w K mg base CX0 1 "_law_is_name" ["_law_name"] spIsNm := ⟨⟨f24, _, ok_isNmL F24 B, g24, k24, b24⟩⟩
    have cLI : Cal l.prog w K mg base CX0 2 "_law_lot_in" ["_law_text"] spLotIn := ⟨⟨f26, _, ok_lotIn F26 B cNI cIL, g26, k26, b26⟩⟩
    have T : Txt l.prog w K mg base C2 CY CS := {
        B := B
        so := (PySem.W.mg_none_of X G z_sorted)
        feed := ⟨⟨f13, _, ok_feed F13 B.list, g13, k13, b13⟩⟩
        draw := cDraw
        pick := cPick
        same := ⟨⟨f16, _, ok_same F16 B g16 b16 0, g16, k16, b16⟩⟩
        any := ⟨⟨f19, _, ok_any F19 cDraw cPick cLot, g19, k19, b19⟩⟩
        lt := ⟨⟨f21, _, ok_lotTextL F21 cRTL, g21, k21, b21⟩⟩
        nm := ⟨⟨f22, _, ok_names F22 B cDraw, g22, k22, b22⟩⟩
        bn := ⟨⟨f28, _, ok_bent F28 B cDraw cPick, g28, k28, b28⟩⟩
        rd := ⟨⟨f27, _, ok_read53 F27 B cNL cLI, g27, k27, b27⟩⟩
        rp := ⟨⟨f12, _, ok_readPage F12 B bad2 ⟨_, PySem.W.mg_of X G vL⟩ cNm cLL cYo, g12, k12, b12⟩⟩
        pg := ⟨⟨f10, _, ok_page F10 B mYS, g10, k10, b10⟩⟩
        ln := mYL
        gT := PySem.W.mg_of X G aC2
        XF := ⟨ga2, gg2, eC2, hC2⟩
        nF := nF2
        te := e22 }
    exact ok_law F29 T
end HL

open PySem PySem.W PyProof.Rows
set_option maxHeartbeats 0 in
theorem PySem.Challenge.cw_hamperlot_k53_whole_texts_that_are_no_pa_holds : PySem.Challenge.rw_hamperlot_k53_whole_texts_that_are_no_pa.Holds := by
  w_on; o_law; k_head; (case hw => w_witness2)
  k_fill
  refine LamX.walk_ofTs (l := PySem.Challenge.rw_hamperlot_k53_whole_texts_that_are_no_pa) (n := 63) (k := 10) (x := "_law_script") (CX := fun _ => L2.CX0) rfl (by decide) rfl ⟨rfl, by decide, by decide⟩ (fun w h Y => PySem.W.kIn_of Y) ?F (fun _ _ _ _ _ h => h)
  case F =>
    intro w mg fa h Y KX G hmg
    refine' HL.all_mk KX G hmg ?a0 ?l0 ?c0 ?k0 ?a1 ?l1 ?c1 ?k1 ?a2 ?l2 ?c2 ?k2 ?a3 ?l3 ?c3 ?k3 ?a4 ?l4 ?c4 ?k4 ?a5 ?l5 ?c5 ?k5 ?a6 ?l6 ?c6 ?k6 ?a7 ?l7 ?c7 ?k7 ?a8 ?l8 ?c8 ?k8 ?a9 ?l9 ?c9 ?k9 ?a10 ?l10 ?c10 ?k10 ?a11 ?l11 ?c11 ?k11 ?a12 ?l12 ?c12 ?k12 ?a13 ?l13 ?c13 ?k13 ?a14 ?l14 ?c14 ?k14 ?a15 ?l15 ?c15 ?k15 ?a16 ?l16 ?c16 ?k16 ?a17 ?l17 ?c17 ?k17 ?a18 ?l18 ?c18 ?k18 ?a19 ?l19 ?c19 ?k19 ?a20 ?l20 ?c20 ?k20 ?a21 ?l21 ?c21 ?k21 ?a22 ?l22 ?c22 ?k22 ?a23 ?l23 ?c23 ?k23 ?a24 ?l24 ?c24 ?k24 ?a25 ?l25 ?c25 ?k25 ?a26 ?l26 ?c26 ?k26 ?a27 ?l27 ?c27 ?k27 ?a28 ?l28 ?c28 ?k28 ?a29 ?l29 ?c29 ?k29 ?aC1 ?xL1 ?sa1 ?ga1 ?gg1 ?nW1 ?nF1 ?aI1 ?tI1 ?lI1 ?cI1 ?kI1 ?kC1 ?eC1 ?tC1 ?hC1 ?iC1 ?aC2 ?xL2 ?sa2 ?ga2 ?gg2 ?nW2 ?nF2 ?aI2 ?tI2 ?lI2 ?cI2 ?kI2 ?kC2 ?eC2 ?tC2 ?hC2 ?iC2 ?s11 ?s22 ?s12 ?s21 ?v6 ?v5 ?v3 ?vF ?vM ?vl ?v8 ?vL ?aCY ?pgCY ?hdCY ?poCY ?saCY ?mkCY ?kcCY ?nCY0 ?nCY1 ?nCY2 ?nCY3 ?aCS ?pgCS ?hdCS ?poCS ?saCS ?mkCS ?kcCS ?nCS0 ?nCS1 ?nCS2 ?aYI ?iYI ?lYI ?cYI ?kYI ?nDYI ?aSI ?iSI ?lSI ?cSI ?kSI ?aYN ?iYN ?lYN ?cYN ?kYN ?aYLn ?iYLn ?lYLn ?cYLn ?kYLn ?aYS ?iYS ?lYS ?cYS ?kYS ?z_len ?z_list ?z_tuple ?z_dict ?z_str ?z_int ?z_bool ?z_isinstance ?z_all ?z_range ?z_sum ?z_min ?z_max ?z_enumerate ?z_sorted
    (case a0 => first | k_is | rfl)
    (case l0 => first | k_is | rfl)
    (case c0 => first | k_is | rfl)
    (case k0 => first | k_is | rfl)
    (case a1 => first | k_is | rfl)
    (case l1 => first | k_is | rfl)
    (case c1 => first | k_is | rfl)
    (case k1 => first | k_is | rfl)
    (case a2 => first | k_is | rfl)
    (case l2 => first | k_is | rfl)
    (case c2 => first | k_is | rfl)
    (case k2 => first | k_is | rfl)
    (case a3 => first | k_is | rfl)
    (case l3 => first | k_is | rfl)
    (case c3 => first | k_is | rfl)
    (case k3 => first | k_is | rfl)
    (case a4 => first | k_is | rfl)
    (case l4 => first | k_is | rfl)
    (case c4 => first | k_is | rfl)
    (case k4 => first | k_is | rfl)
    (case a5 => first | k_is | rfl)
    (case l5 => first | k_is | rfl)
    (case c5 => first | k_is | rfl)
    (case k5 => first | k_is | rfl)
    (case a6 => first | k_is | rfl)
    (case l6 => first | k_is | rfl)
    (case c6 => first | k_is | rfl)
    (case k6 => first | k_is | rfl)
    (case a7 => first | k_is | rfl)
    (case l7 => first | k_is | rfl)
    (case c7 => first | k_is | rfl)
    (case k7 => first | k_is | rfl)
    (case a8 => first | k_is | rfl)
    (case l8 => first | k_is | rfl)
    (case c8 => first | k_is | rfl)
    (case k8 => first | k_is | rfl)
    (case a9 => first | k_is | rfl)
    (case l9 => first | k_is | rfl)
    (case c9 => first | k_is | rfl)
    (case k9 => first | k_is | rfl)
    (case a10 => first | k_is | rfl)
    (case l10 => first | k_is | rfl)
    (case c10 => first | k_is | rfl)
    (case k10 => first | k_is | rfl)
    (case a11 => first | k_is | rfl)
    (case l11 => first | k_is | rfl)
    (case c11 => first | k_is | rfl)
    (case k11 => first | k_is | rfl)
    (case a12 => first | k_is | rfl)
    (case l12 => first | k_is | rfl)
    (case c12 => first | k_is | rfl)
    (case k12 => first | k_is | rfl)
    (case a13 => first | k_is | rfl)
    (case l13 => first | k_is | rfl)
    (case c13 => first | k_is | rfl)
    (case k13 => first | k_is | rfl)
    (case a14 => first | k_is | rfl)
    (case l14 => first | k_is | rfl)
    (case c14 => first | k_is | rfl)
    (case k14 => first | k_is | rfl)
    (case a15 => first | k_is | rfl)
    (case l15 => first | k_is | rfl)
    (case c15 => first | k_is | rfl)
    (case k15 => first | k_is | rfl)
    (case a16 => first | k_is | rfl)
    (case l16 => first | k_is | rfl)
    (case c16 => first | k_is | rfl)
    (case k16 => first | k_is | rfl)
    (case a17 => first | k_is | rfl)
    (case l17 => first | k_is | rfl)
    (case c17 => first | k_is | rfl)
    (case k17 => first | k_is | rfl)
    (case a18 => first | k_is | rfl)
    (case l18 => first | k_is | rfl)
    (case c18 => first | k_is | rfl)
    (case k18 => first | k_is | rfl)
    (case a19 => first | k_is | rfl)
    (case l19 => first | k_is | rfl)
    (case c19 => first | k_is | rfl)
    (case k19 => first | k_is | rfl)
    (case a20 => first | k_is | rfl)
    (case l20 => first | k_is | rfl)
    (case c20 => first | k_is | rfl)
    (case k20 => first | k_is | rfl)
    (case a21 => first | k_is | rfl)
    (case l21 => first | k_is | rfl)
    (case c21 => first | k_is | rfl)
    (case k21 => first | k_is | rfl)
    (case a22 => first | k_is | rfl)
    (case l22 => first | k_is | rfl)
    (case c22 => first | k_is | rfl)
    (case k22 => first | k_is | rfl)
    (case a23 => first | k_is | rfl)
    (case l23 => first | k_is | rfl)
    (case c23 => first | k_is | rfl)
    (case k23 => first | k_is | rfl)
    (case a24 => first | k_is | rfl)
    (case l24 => first | k_is | rfl)
    (case c24 => first | k_is | rfl)
    (case k24 => first | k_is | rfl)
    (case a25 => first | k_is | rfl)
    (case l25 => first | k_is | rfl)
    (case c25 => first | k_is | rfl)
    (case k25 => first | k_is | rfl)
    (case a26 => first | k_is | rfl)
    (case l26 => first | k_is | rfl)
    (case c26 => first | k_is | rfl)
    (case k26 => first | k_is | rfl)
    (case a27 => first | k_is | rfl)
    (case l27 => first | k_is | rfl)
    (case c27 => first | k_is | rfl)
    (case k27 => first | k_is | rfl)
    (case a28 => first | k_is | rfl)
    (case l28 => first | k_is | rfl)
    (case c28 => first | k_is | rfl)
    (case k28 => first | k_is | rfl)
    (case a29 => first | k_is | rfl)
    (case l29 => first | k_is | rfl)
    (case c29 => first | k_is | rfl)
    (case k29 => first | k_is | rfl)
    (case aC1 => first | k_is | rfl)
    (case xL1 => first | k_is | rfl)
    (case sa1 => first | k_is | rfl)
    (case ga1 => first | k_is | rfl)
    (case gg1 => first | k_is | rfl)
    (case nW1 => first | k_is | rfl)
    (case nF1 => first | k_is | rfl)
    (case aI1 => first | k_is | rfl)
    (case tI1 => first | k_is | rfl)
    (case lI1 => first | k_is | rfl)
    (case cI1 => first | k_is | rfl)
    (case kI1 => first | k_is | rfl)
    (case kC1 => first | k_is | rfl)
    (case eC1 => first | k_is | rfl)
    (case tC1 => first | k_is | rfl)
    (case hC1 => first | k_is | rfl)
    (case iC1 => first | k_is | rfl)
    (case aC2 => first | k_is | rfl)
    (case xL2 => first | k_is | rfl)
    (case sa2 => first | k_is | rfl)
    (case ga2 => first | k_is | rfl)
    (case gg2 => first | k_is | rfl)
    (case nW2 => first | k_is | rfl)
    (case nF2 => first | k_is | rfl)
    (case aI2 => first | k_is | rfl)
    (case tI2 => first | k_is | rfl)
    (case lI2 => first | k_is | rfl)
    (case cI2 => first | k_is | rfl)
    (case kI2 => first | k_is | rfl)
    (case kC2 => first | k_is | rfl)
    (case eC2 => first | k_is | rfl)
    (case tC2 => first | k_is | rfl)
    (case hC2 => first | k_is | rfl)
    (case iC2 => first | k_is | rfl)
    (case s11 => first | k_is | rfl)
    (case s22 => first | k_is | rfl)
    (case s12 => first | k_is | rfl)
    (case s21 => first | k_is | rfl)
    (case v6 => first | k_is | rfl)
    (case v5 => first | k_is | rfl)
    (case v3 => first | k_is | rfl)
    (case vF => first | k_is | rfl)
    (case vM => first | k_is | rfl)
    (case vl => first | k_is | rfl)
    (case v8 => first | k_is | rfl)
    (case vL => first | k_is | rfl)
    (case aCY => first | k_is | rfl)
    (case pgCY => first | k_is | rfl)
    (case hdCY => first | k_is | rfl)
    (case poCY => first | k_is | rfl)
    (case saCY => first | k_is | rfl)
    (case mkCY => first | k_is | rfl)
    (case kcCY => first | k_is | rfl)
    (case nCY0 => first | k_is | rfl)
    (case nCY1 => first | k_is | rfl)
    (case nCY2 => first | k_is | rfl)
    (case nCY3 => first | k_is | rfl)
    (case aCS => first | k_is | rfl)
    (case pgCS => first | k_is | rfl)
    (case hdCS => first | k_is | rfl)
    (case poCS => first | k_is | rfl)
    (case saCS => first | k_is | rfl)
    (case mkCS => first | k_is | rfl)
    (case kcCS => first | k_is | rfl)
    (case nCS0 => first | k_is | rfl)
    (case nCS1 => first | k_is | rfl)
    (case nCS2 => first | k_is | rfl)
    (case aYI => first | k_is | rfl)
    (case iYI => first | k_is | rfl)
    (case lYI => first | k_is | rfl)
    (case cYI => first | k_is | rfl)
    (case kYI => first | k_is | rfl)
    (case nDYI => first | k_is | rfl)
    (case aSI => first | k_is | rfl)
    (case iSI => first | k_is | rfl)
    (case lSI => first | k_is | rfl)
    (case cSI => first | k_is | rfl)
    (case kSI => first | k_is | rfl)
    (case aYN => first | k_is | rfl)
    (case iYN => first | k_is | rfl)
    (case lYN => first | k_is | rfl)
    (case cYN => first | k_is | rfl)
    (case kYN => first | k_is | rfl)
    (case aYLn => first | k_is | rfl)
    (case iYLn => first | k_is | rfl)
    (case lYLn => first | k_is | rfl)
    (case cYLn => first | k_is | rfl)
    (case kYLn => first | k_is | rfl)
    (case aYS => first | k_is | rfl)
    (case iYS => first | k_is | rfl)
    (case lYS => first | k_is | rfl)
    (case cYS => first | k_is | rfl)
    (case kYS => first | k_is | rfl)
    (case z_len => first | k_is | rfl)
    (case z_list => first | k_is | rfl)
    (case z_tuple => first | k_is | rfl)
    (case z_dict => first | k_is | rfl)
    (case z_str => first | k_is | rfl)
    (case z_int => first | k_is | rfl)
    (case z_bool => first | k_is | rfl)
    (case z_isinstance => first | k_is | rfl)
    (case z_all => first | k_is | rfl)
    (case z_range => first | k_is | rfl)
    (case z_sum => first | k_is | rfl)
    (case z_min => first | k_is | rfl)
    (case z_max => first | k_is | rfl)
    (case z_enumerate => first | k_is | rfl)
    (case z_sorted => first | k_is | rfl)

