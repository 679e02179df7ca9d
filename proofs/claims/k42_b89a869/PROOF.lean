import PyProof.Rows.All
import Wide.All
import OpenK.AllK
import Wide.FinOn
import PySem.Challenge.RW_hamperlot_k42_a_picker_begun
import HandS.ForMost
import HandS.Exc
import HandS.TryOnly
import HandS.ExcInit
import HandS.ExcField
import HandS.WordsExc
import HandS.Lambda
import HandS.EndTab
import HandS.IsInst
import HandS.TupMul
import HandS.TupAny
import HandS.Walk
import HandS.Defaults
import KE.KTupSum
import KE.DatumOrd
import KE.GoesEnum
import HandS.TryMany
import HandS.Wide
import HandS.Zip
import HandS.SortInts
import HandS.Conv
import HandS.SortRule
import HandS.Deep
import KE.SortKeyHeap
import KE.KSortKey
import KE.SortData
import KE.DataFind
import HandS.SetFor
import KE.GoesZip
import KE.GoesMore
import HandS.Style
import HandS.SetKeys
import HandS.TupSets
import HandS.WideBits
import HandS.RevRange
import KE.KEqSeq
import HandS.Flt
import KE.IntBitsLaws
import HandS.RaiseMore
import KE.KCallOwn
import HandS.Text
import HandS.StrMore
import HandS.Codes
import HandS.More
import HandS.OwnEq
import HandS.FStr
import HandS.MakeKwOnly
import HandS.TupLe
import HandS.MakeKw
import KE.KNestM
set_option Elab.async false
set_option linter.all false
set_option maxRecDepth 100000
set_option maxHeartbeats 4000000
/-! Rules of one's own beside the layer's: sum, max, min of a tuple of ints; enumerate of a tuple; a tuple times 1. -/
namespace HL
open PySem PySem.Spec PyProof.Rows L2
section
variable {X : Cx}
theorem tupI {pins : List (Addr × Obj)} {σ : L2.St} {H : Hp} {s : Shared} {a : Addr} {ns : List Int} (I : Inv X pins σ H s) (h : SqT X.K H a (ns.map V.int)) :
    ∃ its : List Value, IntsAre its ns ∧ s.heap.IsTuple a its.toArray := by
  obtain ⟨its, rv, ⟨o, ho, hc, n, hd⟩, _⟩ := I.tuple h
  exact ⟨its, rv.ints, o, ho, hc, n, hd⟩
/-- sum(t) -/
def rSumT (K : PySem.W.Frag) : List V → Hp → VK → Prop := fun vs H Q =>
  ∃ (a : Addr) (ns : List Int), vs = [V.ref a] ∧ SqT K H a (ns.map V.int) ∧ Q (.int ns.sum) H
theorem cr_sumT (hc : X.calm = true) : CallR X (.builtin "sum") (rSumT X.K) := by
  intro pins s σ H vs us Q I r h
  obtain ⟨a, ns, rfl, hs, q⟩ := h
  obtain ⟨its, hi, hl⟩ := tupI I hs
  rw [Vals.ref1 r]
  obtain ⟨xs, e⟩ := hi.allInts.items
  have hn : numsOf (intItems xs).toList = ns := by
    rw [← e]
    exact hi.numsOf
  rw [nums_intItems] at hn
  rw [e] at hl
  refine PySem.W.ktm_sumG (I.ok.hd hc) hl fun h' tk t' hk => ?_
  rw [preSum_eq]
  rw [List.take_of_length_le (by simp), hn]
  exact ⟨.int _, H, I.kept hk, ⟨_, rfl⟩, q⟩
theorem maxOf_le (x : Int) (xs : List Int) : PySem.W.maxOf x xs ∈ x :: xs ∧ ∀ y ∈ x :: xs, y ≤ PySem.W.maxOf x xs := by
  induction xs generalizing x with
  | nil => exact ⟨List.mem_cons_self, fun y hy => by simp at hy; subst hy; exact Int.le_refl _⟩
  | cons z zs ih =>
    have e : PySem.W.maxOf x (z :: zs) = PySem.W.maxOf (if PySem.W.DatumOrd.lt x z = true then z else x) zs := rfl
    have d : (PySem.W.DatumOrd.lt x z = true) ↔ x < z := by
      show decide (x < z) = true ↔ x < z
      exact decide_eq_true_iff
    rw [e]
    by_cases c : x < z
    · rw [if_pos (d.mpr c)]
      obtain ⟨h1, h2⟩ := ih z
      refine ⟨List.mem_cons_of_mem _ h1, fun y hy => ?_⟩
      rcases List.mem_cons.mp hy with r | r
      · have := h2 z List.mem_cons_self
        omega
      · exact h2 y r
    · rw [if_neg (fun q => c (d.mp q))]
      obtain ⟨h1, h2⟩ := ih x
      refine ⟨?_, fun y hy => ?_⟩
      · rcases List.mem_cons.mp h1 with r | r
        · rw [r]; exact List.mem_cons_self
        · exact List.mem_cons_of_mem _ (List.mem_cons_of_mem _ r)
      · rcases List.mem_cons.mp hy with r | r
        · have := h2 x List.mem_cons_self
          omega
        · rcases List.mem_cons.mp r with r | r
          · have := h2 x List.mem_cons_self
            omega
          · exact h2 y (List.mem_cons_of_mem _ r)
theorem minOf_le (x : Int) (xs : List Int) : PySem.W.minOf x xs ∈ x :: xs ∧ ∀ y ∈ x :: xs, PySem.W.minOf x xs ≤ y := by
  induction xs generalizing x with
  | nil => exact ⟨List.mem_cons_self, fun y hy => by simp at hy; subst hy; exact Int.le_refl _⟩
  | cons z zs ih =>
    have e : PySem.W.minOf x (z :: zs) = PySem.W.minOf (if PySem.W.DatumOrd.lt z x = true then z else x) zs := rfl
    have d : (PySem.W.DatumOrd.lt z x = true) ↔ z < x := by
      show decide (z < x) = true ↔ z < x
      exact decide_eq_true_iff
    rw [e]
    by_cases c : z < x
    · rw [if_pos (d.mpr c)]
      obtain ⟨h1, h2⟩ := ih z
      refine ⟨List.mem_cons_of_mem _ h1, fun y hy => ?_⟩
      rcases List.mem_cons.mp hy with r | r
      · have := h2 z List.mem_cons_self
        omega
      · exact h2 y r
    · rw [if_neg (fun q => c (d.mp q))]
      obtain ⟨h1, h2⟩ := ih x
      refine ⟨?_, fun y hy => ?_⟩
      · rcases List.mem_cons.mp h1 with r | r
        · rw [r]; exact List.mem_cons_self
        · exact List.mem_cons_of_mem _ (List.mem_cons_of_mem _ r)
      · rcases List.mem_cons.mp hy with r | r
        · have := h2 x List.mem_cons_self
          omega
        · rcases List.mem_cons.mp r with r | r
          · have := h2 x List.mem_cons_self
            omega
          · exact h2 y (List.mem_cons_of_mem _ r)
/-- max(t), min(t) of ints -/
def rMaxT (K : PySem.W.Frag) : List V → Hp → VK → Prop := fun vs H Q =>
  ∃ (a : Addr) (ns : List Int), vs = [V.ref a] ∧ SqT K H a (ns.map V.int) ∧ 0 < ns.length ∧ ∀ m, m ∈ ns → (∀ y ∈ ns, y ≤ m) → Q (.int m) H
def rMinT (K : PySem.W.Frag) : List V → Hp → VK → Prop := fun vs H Q =>
  ∃ (a : Addr) (ns : List Int), vs = [V.ref a] ∧ SqT K H a (ns.map V.int) ∧ 0 < ns.length ∧ ∀ m, m ∈ ns → (∀ y ∈ ns, m ≤ y) → Q (.int m) H
theorem int_of_holds {h : Heap} {v : Value} {x : Int} (H : PySem.W.Holds h v x) : ∃ t, v = Value.int x t := by
  have z := PySem.W.HoldAll.toInts (PySem.W.HoldAll.cons H PySem.W.HoldAll.nil)
  cases z with
  | cons n t z => exact ⟨t, rfl⟩
theorem cr_maxT (hc : X.calm = true) (hu : X.A.units + 64 < cLine) : CallR X (.builtin "max") (rMaxT X.K) := by
  intro pins s σ H vs us Q I r h
  obtain ⟨a, ns, rfl, hs, hne, q⟩ := h
  obtain ⟨its, hi, hl⟩ := tupI I hs
  rw [Vals.ref1 r]
  cases ns with
  | nil => simp at hne
  | cons x xs =>
    refine PySem.W.max_tuple_datum (x := x) (xs := xs) (I.ok.hd hc) hl (PySem.W.HoldAll.of_ints (by simpa using hi)) (by show X.A.units + 1 + 0 < cLine; omega) fun i v h' tk _ hv hk => ?_
    obtain ⟨t, rfl⟩ := int_of_holds hv
    obtain ⟨h1, h2⟩ := maxOf_le x xs
    exact ⟨.int _, H, I.kept hk, ⟨_, rfl⟩, q _ h1 h2⟩
theorem cr_minT (hc : X.calm = true) (hu : X.A.units + 64 < cLine) : CallR X (.builtin "min") (rMinT X.K) := by
  intro pins s σ H vs us Q I r h
  obtain ⟨a, ns, rfl, hs, hne, q⟩ := h
  obtain ⟨its, hi, hl⟩ := tupI I hs
  rw [Vals.ref1 r]
  cases ns with
  | nil => simp at hne
  | cons x xs =>
    refine PySem.W.min_tuple_datum (x := x) (xs := xs) (I.ok.hd hc) hl (PySem.W.HoldAll.of_ints (by simpa using hi)) (by show X.A.units + 1 + 0 < cLine; omega) fun i v h' tk _ hv hk => ?_
    obtain ⟨t, rfl⟩ := int_of_holds hv
    obtain ⟨h1, h2⟩ := minOf_le x xs
    exact ⟨.int _, H, I.kept hk, ⟨_, rfl⟩, q _ h1 h2⟩
end
end HL

namespace HL
open PySem PySem.Spec PyProof.Rows L2
open AutoSeq1 (wpAny_loadPart')
/-! enumerate(t), t a tuple -/
abbrev oIt (t : Addr) : Obj := { cls := .type "tuple_iterator", data := .fields #[.ref t, .int 0 0] }
abbrev oEn (i : Addr) : Obj := { cls := .type "enumerate", data := .fields #[.none, .bool false, .ref i, rawInt 0, .none, .none] }
theorem meets_enumT (t : Addr) (items : Array Value) (o : Obj) (tyE : ∀ h : Heap, h.get? t = some o → h.IsTuple t items) :
    Meets (Builtin.«enumerate.__new__» ⟨[.type "enumerate", .ref t], []⟩)
      (fun _ R s => s.heap.get? t = some o ∧ R (.ok (.ret (.ref (s.heap.push (oIt t)).objs.size))) { s with heap := (s.heap.push (oIt t)).push (oEn s.heap.objs.size) }) :=
  .of_wp fun prog w A R s h => by
    obtain ⟨hp, g, d, tk, os⟩ := s
    obtain ⟨hl, h⟩ := h
    have hsub := sub_enumerate
    have hL : Heap.IsTuple (Shared.heap ⟨hp, g, d, tk, os⟩) t items := tyE _ hl
    wp_walk using wpAny_loadPart' hl
    refine wpAny_stack_any fun stk => wpAny_pure ?_
    split
    · rename_i c _ _ _ _ _
      cases (c == Value.type "enumerate") <;> (wp_walk using wpAny_loadPart' hl, wpAny_pyIter_tuple hL; exact ⟨_, rfl, h⟩)
    · wp_walk using wpAny_loadPart' hl, wpAny_pyIter_tuple hL
      exact ⟨_, rfl, h⟩
theorem call_enumT {prog : Program} {w : World} {A : Around} {E : Value → Shared → Prop} {s : Shared} {t : Addr} {items : Array Value} {Q : Value → Shared → Prop} (hL : s.heap.IsTuple t items)
    (h : ∀ h', IsEnum h' (s.heap.objs.size + 1) s.heap.objs.size 0 .none → h'.IsTupleIter s.heap.objs.size t 0 →
      (∀ b o, s.heap.get? b = some o → h'.get? b = some o) → Q (.ref (s.heap.objs.size + 1)) { s with heap := h' }) :
    wpAny (model prog w) A (call (.type "enumerate") [.ref t]) Q E s := by
  obtain ⟨o, hl, hc, n, hd⟩ := hL
  refine callType_new F.called_enumerate (by decide) (F.typeCall_enumerate_1 _) (F.newCall_enumerate_1 _) (fun obj => F.args_object_init_2 obj _) F.entry_enumerate_new
    (meets_enumT t items o fun h' e => ⟨o, e, hc, n, hd⟩) ⟨hl, ?_⟩
  have hz : (s.heap.push (oIt t)).objs.size = s.heap.objs.size + 1 := Heap.size_push ..
  show _ ∧ _
  rw [hz]
  have hen : IsEnum ((s.heap.push (oIt t)).push (oEn s.heap.objs.size)) (s.heap.objs.size + 1) s.heap.objs.size 0 .none := by
    have q := Heap.get?_push_size (s.heap.push (oIt t)) (o := oEn s.heap.objs.size) rfl
    rw [hz] at q
    exact q
  exact ⟨⟨_, hen, rfl⟩, h _ hen ⟨_, Heap.get?_push_of_some _ (Heap.get?_push_size _ rfl), rfl, rfl⟩ fun b o x => Heap.get?_push_of_some _ (Heap.get?_push_of_some _ x)⟩
theorem enum_endT {prog : Program} {w : World} {A : Around} {E : Value → Shared → Prop} {s : Shared} {e it t : Addr} {i : Nat} {items : Array Value} {old : Value} {Q : Option Value → Shared → Prop}
    (hh : A.handled = none) (hen : IsEnum s.heap e it i old) (hit : s.heap.IsTupleIter it t i) (hl : s.heap.IsTuple t items) (hx : items[i]? = none)
    (wish : ∀ h', Heap.ExtBut it s.heap h' → Q none { s with heap := h' }) : wpAny (model prog w) A (pyNext (.ref e)) Q E s := by
  have tyE : s.TypeIs (.ref e) "enumerate" := ⟨_, hen, rfl⟩
  unfold pyNext
  refine wpAny_bind (wpAny_attempt (wpAny_callSpecial?_slot (name := Str.ofString "__next__") tyE F.slot_enumerate_next (wpAny_call_entry F.slot_enumerate_next tyE F.entry_enumerate_next ?_ (F.args_enumerate_next_1 _))))
  show wpAny _ _ (field (.ref e) 2 >>= _) _ _ _
  refine wpAny_bind (wpAny_field hen rfl (x := .ref it) rfl (wpAny_bind (wpAny_nextOf_tuple_end hh hit hl hx fun h' x hen' hx' => ?_)))
  obtain ⟨o, ho, hc⟩ := hx'
  exact wpAny_bind (wpAny_isInstance (T := "StopIteration") (b := true) ⟨o, ho, hc⟩ isSubtype_stop (wpAny_pure (wish _ hen')))
/-- the tuple at a, each item in a new pair -/
def IteT (K : PySem.W.Frag) (a : Addr) : It where
  go := fun i H => ∃ (xs : List V) (x : V), SqT K H a xs ∧ xs[i]? = some x
  yld := fun i H v H' => ∃ T x, v = .ref T ∧ H T = none ∧ H' = upd H T (.tup [.int (i : Nat), x]) ∧ ∀ xs, SqT K H a xs → xs[i]? = some x
  stop := fun i H => ∃ xs : List V, SqT K H a xs ∧ xs.length ≤ i
theorem turn_enumT {P : Program} {w : World} {K : PySem.W.Frag} {elts : List Expr} {kk : Nat} {tpos : Pos} (a e it : Addr) (hai : a ≠ it) :
    Turn P w K (.Tuple elts kk tpos) (IteT K a) [e, it] e (fun i h => (∃ old, IsEnum h e it ((i : Nat) : Int) old) ∧ h.IsTupleIter it a i ∧ e ≠ it ∧ e ≠ a) where
  mem := by simp
  obj := fun i h sta b hb => by
    obtain ⟨⟨old, hen⟩, ⟨o, ho, hc, hd⟩, _⟩ := sta
    have e' : b = e ∨ b = it := by simpa using hb
    rcases e' with z | z
    · rw [z]
      exact ⟨_, hen, fun v q => nomatch q⟩
    · rw [z]
      exact ⟨o, ho, fun v q => by rw [hd] at q; cases q⟩
  keep := fun i h h' sta k => by
    obtain ⟨⟨old, hen⟩, hi, hne⟩ := sta
    exact ⟨⟨old, k e (by simp) _ hen⟩, hi.at fun o q => k it (by simp) o q, hne⟩
  item := by
    intro X hP hw hK hc i pins s σ H E I fpk sta hg
    subst hP hw hK
    obtain ⟨⟨old, hen⟩, hit, hne, hea⟩ := sta
    obtain ⟨xs, x, hq, hx⟩ := hg
    obtain ⟨its, rv, ⟨ot, hot, hct, nt, hdt⟩, hz⟩ := I.tuple hq
    have tyE : s.heap.IsTuple a its.toArray := ⟨ot, hot, hct, nt, hdt⟩
    obtain ⟨u, hu, ru⟩ := rv.get hx
    have hlt : i < its.toArray.size := by
      have := (List.getElem?_eq_some_iff.mp hu).1
      simpa using this
    have elt : e < s.heap.objs.size := Heap.lt_size hen
    have hil : it < s.heap.objs.size := by
      obtain ⟨_, q, _⟩ := hit
      exact Heap.lt_size q
    refine wpAny_pyNext_enum_itemD (Draws.tuple (A := X.A.in1) (I.ok.hd hc) it a hai its.toArray) hen ⟨hit, tyE⟩ hlt hne (by simp [hne, hea]) fun z h' tk hz' ho hit' hTn hsz kep => ?_
    have ez : z = u := by
      have q : its[i]? = some z := by simpa using hz'
      rw [hu] at q
      exact (Option.some.inj q).symm
    subst ez
    refine ⟨_, rfl, wpAny_letOwnedTupleGo_enum (s := { s with heap := h', toks := tk + 1 }) ho fun h'' hen' smb => ?_⟩
    have hT2 : h''.get? s.heap.objs.size = some { cls := .type "tuple", data := .seq #[.int i tk, z] } := (smb.2 _ (Nat.ne_of_gt elt)).trans hTn
    have new : ObjOk X.prog X.w (upd H s.heap.objs.size (.tup [.int (i : Nat), x])) h'' s.heap.objs.size (.tup [.int (i : Nat), x]) :=
      ⟨by show 2 ≤ sizeLine; decide, [.int i tk, z], .cons ⟨_, rfl⟩ (.cons ru .nil), ⟨_, hT2, rfl, _, rfl⟩⟩
    have I1 : Inv X pins σ (upd H s.heap.objs.size (.tup [.int (i : Nat), x])) { s with heap := h'', toks := tk + 1 } :=
      I.turnedNew (ch := [e, it]) (fun b ob hb q => (smb.2 b (fun z => hb (by simp [z]))).trans (kep b ob (fun z => hb (by simp [z])) (fun z => hb (by simp [z])) q)) fpk (Nat.le_refl _) new
    refine ⟨.ref s.heap.objs.size, _, I1, rfl, ⟨_, x, rfl, I.hok.fresh (Nat.le_refl _), rfl, fun ys hy => ?_⟩, ⟨⟨z, ?_⟩, hit'.1.at fun o q => (smb.2 it (Ne.symm hne)).trans q, hne, hea⟩, fun b hb => ?_⟩
    · rw [I.tuple_inj hy hq]
      exact hx
    · have eqi : ((i + 1 : Nat) : Int) = (i : Int) + 1 := by omega
      rw [eqi]
      exact hen'
    · have hb' : b < s.heap.objs.size := by
        have e' : b = e ∨ b = it := by simpa using hb
        rcases e' with z | z
        · rw [z]
          exact elt
        · rw [z]
          exact hil
      rw [upd_ne (Nat.ne_of_lt hb')]
      exact (fpk b hb).1
  done := by
    intro X hP hw hK hc i pins s σ H E I fpk sta hg
    subst hP hw hK
    obtain ⟨⟨old, hen⟩, hit, hne, hea⟩ := sta
    obtain ⟨xs, hq, hx⟩ := hg
    obtain ⟨its, rv, ⟨ot, hot, hct, nt, hdt⟩, hz⟩ := I.tuple hq
    obtain ⟨p0, p1, p2, p3, p4, p5⟩ := fpk it (by simp)
    have hl := rv.length
    refine enum_endT (I.ok.hd hc) hen hit ⟨ot, hot, hct, nt, hdt⟩ (by simp; omega) fun h' eb => ⟨rfl, I.turned (t' := s.toks) (fun b o hb q => eb b o hb q) p0 p1 p3 p4 p5⟩
  self := fun A i s Q E sta h => let ⟨⟨_, hen⟩, _⟩ := sta; wpAny_pyIter_enum hen h
def iEnumT (K : PySem.W.Frag) (ta : TA) : TI := fun σ H R => ta σ H fun vs H1 => ∃ a xs, vs = [.ref a] ∧ SqT K H1 a xs ∧ R (IteT K a) H1
theorem pi_enumT {X : Cx} {e : Expr} {ta : TA} {p pos tpos : Pos} {elts : List Expr} {kk : Nat} (hg : Gl X "enumerate") (hm : X.mg "enumerate" = none) (ha : PA X [e] ta)
    (hs : starEach [e] X.env = [(false, eval e X.env)] := by rfl) : PI X (.Tuple elts kk tpos) (.Call (.Name "enumerate" p) [e] [] pos) (iEnumT X.K ta) := by
  refine ⟨fun pins s σ H R I h => ?_⟩
  refine Call_ (ld_blt I hg hm boot_enumerate (PyProof.Rows.callWith_type1 (thn (ha.run pos pins s σ H _ I h) fun us sA ⟨vs, H1, I1, r1, q1⟩ => ?_) hs rfl))
  obtain ⟨a, xs, ex, hq, q⟩ := q1
  subst ex
  rw [Vals.ref1 r1]
  obtain ⟨its, rv, ⟨ot, hot, hct, nt, hdt⟩, hz⟩ := I1.tuple hq
  have hla : a < sA.heap.objs.size := Heap.lt_size hot
  refine call_enumT (items := its.toArray) ⟨ot, hot, hct, nt, hdt⟩ fun h' hen hit kep => wpAny_pyIter_enum hen ?_
  have JB : Inv X pins σ H1 { sA with heap := h' } := I1.kept (t' := sA.toks) kep
  refine ⟨sA.heap.objs.size + 1, [sA.heap.objs.size + 1, sA.heap.objs.size], _, _, H1, rfl, JB, turn_enumT a (sA.heap.objs.size + 1) sA.heap.objs.size (Nat.ne_of_lt hla),
    ⟨⟨.none, hen⟩, hit, Nat.succ_ne_self _, Nat.ne_of_gt (Nat.lt_succ_of_lt hla)⟩, fun b hb => ?_, q⟩
  have e' : b = sA.heap.objs.size + 1 ∨ b = sA.heap.objs.size := by simpa using hb
  have hle : sA.heap.objs.size ≤ b := by
    rcases e' with z | z
    · rw [z]
      exact Nat.le_add_right _ _
    · rw [z]
      exact Nat.le_refl _
  exact I1.fpOk hle (I1.hok.fresh hle)
end HL

namespace HL
open PySem PySem.Spec PyProof.Rows L2
open AutoSeq1 (wpAny_loadPart')
/-! t * k, k from 1 on: once is the tuple itself -/
theorem tuple_mul1 (l : Addr) (items : Array Value) (n : Nat) (dd : Option Addr) (sl : Array (Option Value)) (u : Tok) :
    Meets (Builtin.«tuple.__mul__» ⟨[.ref l, .int 1 u], []⟩)
      (fun _ R s => s.heap.get? l = some { cls := .type "tuple", dict := dd, data := .seq items n, slots := sl } ∧ R (.ok (.ret (.ref l))) s) :=
  .of_wp fun prog w A R s h => by
    obtain ⟨hp, g, d, tk, os⟩ := s
    obtain ⟨hl, h⟩ := h
    have f1 := AutoSeq1.idx_int
    have ht : Shared.TypeIs ⟨hp, g, d, tk, os⟩ (.ref l) "tuple" := ⟨_, hl, rfl⟩
    wp_walk using wpAny_loadPart' hl
    repeat (first
      | (refine wpAny_ite_false (by decide) ?_; wp_walk using wpAny_loadPart' hl)
      | (refine wpAny_ite_true (by cases items.isEmpty <;> decide) ?_; wp_walk using wpAny_loadPart' hl)
      | (refine wpAny_typeOf ht ?_; wp_walk using wpAny_loadPart' hl)
      | (refine wpAny_bind (wpAny_typeOf ht ?_); wp_walk using wpAny_loadPart' hl))
    exact ⟨_, rfl, h⟩
def rRepA (K : PySem.W.Frag) : R2 := fun x y H Q => ∃ l k xs, x = .ref l ∧ y = .int k ∧ SqT K H l xs ∧ xs ≠ [] ∧ 1 ≤ k ∧ k ≤ 1000 ∧ xs.length ≤ 1000 ∧
  (k = 1 → Q (.ref l) H) ∧ (k ≠ 1 → ∀ p, H p = none → Q (.ref p) (upd H p (.tup (List.replicate k.toNat xs).flatten)))
theorem op_repA {X : Cx} : OpR X (binaryOp .Mult) (rRepA X.K) := by
  intro pins s σ H x y v u Q I rx ry h
  obtain ⟨l, k, xs, rfl, rfl, hT, hne, h1, h2, hz, q1, q2⟩ := h
  by_cases hk : k = 1
  · subst hk
    have rx' := rx
    cases rx
    obtain ⟨t, rfl⟩ := ry
    obtain ⟨its, r, ⟨⟨cl, dd, dat, sl⟩, ho, hc, n, hd⟩, _⟩ := I.tuple hT
    simp only at hc hd
    subst hc hd
    exact wpAny_binaryOp_repeat_ref (T := "tuple") (U := "int") (by decide) ⟨_, ho, rfl⟩ (fun s' => typeIs_int s' 1 t) noFill_tuple_mul F.fills_int_mul F.slot_int_rmul repeat_tuple F.slot_int_index.lookup
      (call_meets F.slot_int_rmul (typeIs_int s 1 t) F.entry_int_rmul (F.args_int_rmul_2 _ _) (int_rmul_tuple 1 t l its.toArray n dd sl)
        ⟨ho, rfl, ⟨_, ho, rfl⟩, call_meets F.slot_tuple_mul ⟨_, ho, rfl⟩ F.entry_tuple_mul (F.args_tuple_mul_2 _ _) (tuple_mul1 l its.toArray n dd sl t) ⟨ho, ⟨.ref l, H, I, rfl, q1 rfl⟩⟩⟩)
  · exact op_repT pins s σ H _ _ v u Q I rx ry ⟨l, k, xs, rfl, rfl, hT, hne, by omega, h2, hz, q2 hk⟩
end HL

namespace HL
open PySem PySem.Spec PyProof.Rows L2
/-! several except clauses, each with a name -/
/-- behind a suite the name's slot is empty -/
abbrev offE (i : Nat) (D : Ends) : Ends := { nx := fun σ' H' => D.nx (σ'.set i none) H', rt := D.rt, bk := fun σ' H' => D.bk (σ'.set i none) H', ct := fun σ' H' => D.ct (σ'.set i none) H' }
def wManyA (K : PySem.W.Frag) (i : Nat) (Wout : WX) (D : Ends) : List (Value × (Addr → Value → Option Addr → TS)) → WX
  | [] => Wout
  | (c, ts) :: r => fun cls d σ H => ∃ b, PySem.W.exmOne K cls c = some b ∧ (b = true → ∀ a, H a = none → ts a cls d (offE i D) (σ.set i (some (.ref a))) H) ∧ (b = false → wManyA K i Wout D r cls d σ H)
inductive HdsA (X : Cx) (n : Str) : List ExceptHandler → List (Value × (Addr → Value → Option Addr → TS)) → Prop
  | nil : HdsA X n [] []
  | cons {x : Str} {c : Value} {ts : Addr → Value → Option Addr → TS} {b₀ : Stmt} {suite : List Stmt} {np pos' : Pos} {hds : List ExceptHandler} {l : List (Value × (Addr → Value → Option Addr → TS))} (hc : Names X x c)
      (hsu : ∀ (a : Addr) (oe : Obj) (cls : Value) (d : Option Addr) (pn : List (Addr × Obj)), Zc cls d oe → (∃ vs, oe.data = .fields vs) → PSs (X.suite a ((a, oe) :: pn)) (b₀ :: suite) (ts a cls d)) (r : HdsA X n hds l) :
      HdsA X n (.ExceptHandler (some (.Name x np)) (some n) (b₀ :: suite) pos' :: hds) ((c, ts) :: l)
section
variable {X : Cx} {n : Str} {i : Nat} {body : List Stmt} {h₀ : ExceptHandler} {hds : List ExceptHandler} {l : List (Value × (Addr → Value → Option Addr → TS))} {pos : Pos} {tb : WX → TS} {Wout : WX}
theorem ps_try_manyA (hs : X.stack = X.env :: X.outer) (hf : X.env.frame = some X.env.locals) (hN : X.N.Nodup) (hi : X.N[i]? = some n) (hln : X.env.kindOf n = some .local) (tk : Takes X Wout)
    (hb : ∀ (W : WX) (pn : List (Addr × Obj)) (xe : Value → Shared → Prop), Takes (X.tr pn xe) W → PassesOwn (model X.prog X.w) X.A X.env xe → PSs (X.tr pn xe) body (tb W)) (hh : HdsA X n (h₀ :: hds) l) :
    PS X (.Try body (h₀ :: hds) [] [] pos) (fun D σ H => tb (wManyA X.K i Wout D l) D σ H) := by
  refine ⟨fun pins s σ H D I hTB => ?_⟩
  have okI := I.ok
  have frA : X.A.frames = some (X.env :: X.outer) := by rw [okI.frames, hs]
  have locN : Loc X.env.scope n := .inl hln
  refine wpAny_Try_except (wpAny_mono ((hb (wManyA X.K i Wout D l) (X.pn ++ pins) (fun e sa => wpAny (model X.prog X.w) X.A (noteFrame e X.env) (fun _ sb => wpAny (model X.prog X.w) X.A (setFlight e none) (fun _ sc =>
    wpAny (model X.prog X.w) X.A (handleBy e X.env (h₀ :: hds)) (SP X pins D) X.xe sc) X.xe sb) X.xe sa) (fun u s' xx => ?_) PassesOwn.looking).run [] s σ H D (I.toTry _) hTB) (fun f sq hsp => ?_) (fun e sq he => he))
  · obtain ⟨a, B, sI, pins', σ', H', cls, d, rfl, J', nb, up, sky, na, os, ag, wsh⟩ := xx
    have J : Inv X pins σ' H' sI := J'.ofTry okI
    have skyE : Sky B (X.env :: X.outer) a (Zc cls d) X.env.locals s'.heap := by rw [← hs]; exact sky
    show wpAny (model X.prog X.w) X.A (noteFrame (.ref a) X.env) _ _ _
    refine Sky.land Zc.steady frA hf skyE fun hC flC upC => ?_
    have JC : Inv X pins σ' H' { s' with heap := hC } := J.landed nb flC.1 (up.trans upC) os ag
    obtain ⟨oC, vC, heC, hzC, hdC⟩ := flC.there
    have notFr : a ∉ frs (X.env :: X.outer) := fun hm => by
      obtain ⟨_, o', e', hnf⟩ := flC.2.2.1.mem hm
      rw [heC] at e'
      cases e'
      exact hnf _ hdC
    have nL : a ≠ X.env.locals := fun z => notFr (List.mem_filterMap.mpr ⟨X.env, List.mem_cons_self, by rw [hf, z]⟩)
    have nF : a ∉ X.fs := fun hm => by
      obtain ⟨e, he, q⟩ := List.mem_filterMap.mp hm
      exact notFr (List.mem_filterMap.mpr ⟨e, List.mem_cons_of_mem _ he, q⟩)
    have SC := JC.suite heC hdC na nL nF
    have go : ∀ {hd2 : List ExceptHandler} {l2 : List (Value × (Addr → Value → Option Addr → TS))}, HdsA X n hd2 l2 → wManyA X.K i Wout D l2 cls d σ' H' → wpAny (model X.prog X.w) X.A (handleBy (.ref a) X.env hd2) (SP X pins D) X.xe { s' with heap := hC } := by
      intro hd2 l2 hk
      induction hk with
      | nil =>
        intro wn
        refine wpAny_handleBy_nil ?_
        obtain ⟨k1, k2, k3, oe, vs, T, oT, ts', he, hz, hd, h1, hr⟩ := id flC
        unfold PySem.passOn
        refine wpAny_bind (wpAny_field he hd h1 ?_)
        rw [if_neg (show ¬ ((Value.ref T == Value.none) = true) from by simp)]
        have fin : wpAny (model X.prog X.w) X.A (setFlight (.ref a) X.env.frame) (fun _ sd => wpAny (model X.prog X.w) X.A (throw (.ref a) : Sem Flow) (SP X pins D) X.xe sd) X.xe { s' with heap := hC } := by
          rw [hf]
          refine HandSPX.setFlight_upZ flC fun hD hhD upD => wpAny_throw (tk _ _ ?_)
          exact ⟨a, B, sI, pins, σ', H', cls, d, rfl, J, nb, (up.trans upC).trans upD, .inr (.inr (by rw [hs]; exact hhD)), na, os, ag, wn⟩
        first
          | exact wpAny_bind (wpAny_pure (wpAny_bind fin))
          | exact wpAny_bind fin
      | @cons x c ts b₀ suite np pos' hd3 l3 hc hsu r ih =>
        intro wn
        obtain ⟨b, hb1, hyes, hno⟩ := wn
        refine wpAny_handleBy_cons (codeAny_handlers_test ?_) (by intro q; cases q)
        have LT : PySem.W.Looks (model X.prog X.w) hC (typeOf (.ref a)) cls := fun A Q E s k q => wpAny_typeOf_ref (k _ _ heC) (by rw [hzC.1]; exact q)
        have LM := PySem.W.exm_one (M := model X.prog X.w) (JC.kIn) LT hb1
        have look : ∀ {Q : Value → Shared → Prop} {E : Value → Shared → Prop}, Q c { s' with heap := hC } → wpAny (model X.prog X.w) (X.A.mark (some (.ref a))) (eval (.Name x np) X.env) Q E { s' with heap := hC } := fun {Q E} q => by
          obtain ⟨hg, hdbg, hm | ⟨hm, hv, hnn⟩⟩ := hc
          · exact ld_glob (X := X.suite a ((a, oC) :: (X.pn ++ pins))) SC hg hm q hdbg
          · exact ld_blt (X := X.suite a ((a, oC) :: (X.pn ++ pins))) SC hg hm hv q hnn hdbg
        refine look (LM.here ?_)
        cases b with
        | false =>
          show wpAny _ X.A (handleBy (.ref a) X.env hd3) _ _ _
          exact ih (hno rfl)
        | true =>
          refine codeAny_handlers_suite_as (HandSPX.lands_againZ flC fun hD flD upD => ?_)
          have JD : Inv X pins σ' H' { s' with heap := hD } := J.landed nb flD.1 ((up.trans upC).trans upD) os ag
          obtain ⟨oD, vD, heD, hzD, hdD⟩ := flD.there
          have SD := JD.suite heD hdD na nL nF
          refine store_ok (X := X.suite a ((a, oD) :: (X.pn ++ pins))) (v := .ref a) SD hN hi locN rfl (fun sE SE => ?_) (.inr hln)
          refine wpAny_mono ((hsu a oD cls d (X.pn ++ pins) hzD ⟨_, hdD⟩).run [] sE _ H' _ SE (hyes rfl a na)) (fun f sG hsp => ?_) (fun _ _ z => False.elim z)
          have off : ∀ {σG : L2.St} {HG : Hp} {Q : Shared → Prop}, Inv (X.suite a ((a, oD) :: (X.pn ++ pins))) [] σG HG sG → (∀ sH, Inv X pins (σG.set i none) HG sH → Q sH) →
              wpAny (model X.prog X.w) X.A (do bindName X.env n .none; unbindBehindTheSuite X.env n pos') (fun _ sH => Q sH) X.xe sG := fun {σG HG Q} SG hq => gone_ok (SG.unsuite okI) hN hi hln hq
          cases f with
          | ret u =>
            obtain ⟨vG, σG, HG, SG, rG, qG⟩ := hsp
            exact off SG fun sH JH => ⟨_, _, _, JH, rG, qG⟩
          | next =>
            obtain ⟨σG, HG, SG, qG⟩ := hsp
            exact off SG fun sH JH => ⟨_, _, JH, qG⟩
          | brk =>
            obtain ⟨σG, HG, SG, qG⟩ := hsp
            exact off SG fun sH JH => ⟨_, _, JH, qG⟩
          | cont =>
            obtain ⟨σG, HG, SG, qG⟩ := hsp
            exact off SG fun sH JH => ⟨_, _, JH, qG⟩
    exact go hh wsh
  · cases f with
    | ret u =>
      obtain ⟨v, σ', H', J', r, q⟩ := hsp
      exact ⟨v, σ', H', J'.ofTry okI, r, q⟩
    | next =>
      obtain ⟨σ', H', J', q⟩ := hsp
      exact wpAny_execs_nil ⟨σ', H', J'.ofTry okI, q⟩
    | brk =>
      obtain ⟨σ', H', J', q⟩ := hsp
      exact ⟨σ', H', J'.ofTry okI, q⟩
    | cont =>
      obtain ⟨σ', H', J', q⟩ := hsp
      exact ⟨σ', H', J'.ofTry okI, q⟩
end
end HL

namespace HL
open PySem PySem.Spec PyProof.Rows L2
open LamX (CodeO Tabs TabB ExtN LamS lamEnv lamCx lam_start2 lam_make2 run_ofS tLam)
/-! what a def got is asked, its own slots known where that raises -/
/-- the asking def's context, entered at s -/
abbrev gCx (X : Cx) (Ng : List Str) (q : Str) (sg : Scope) (g : Addr) (cd : Value) (s : Shared) (H : Hp) : Cx := cxOf C8.CX0 X.prog X.w X.K X.mg X.base Ng q sg g cd X.A X.stack s H C8.E0
/-- the lambda that was made -/
abbrev lamO (X : Cx) (ps : Arguments) (b : Expr) (sc : Scope) (pm : Value) (c' : Addr) (ct : Value) : Obj := PySem.W.kla_obj "<lambda>" (X.env.qual ++ "<lambda>") ps b sc (cloFrom X.env.cells sc.names []) pm c' ct
theorem act_at {X : Cx} {pins : List (Addr × Obj)} {σ : L2.St} {H : Hp} {s : Shared} {Ng : List Str} {q : Str} {sg : Scope} {g f c' : Addr} {cd pm ct : Value} {ps : Arguments} {b : Expr} {sc : Scope} {k i : Nat} {a : Str} {pn : List (Addr × Obj)} {xe : Value → Shared → Prop} {W : WX} {E : XK} {tb : TE} {p1 p2 : Pos} {σ0 : L2.St}
    (I : Inv X pins σ H s) (L : LamS X.env.scope sc) (hf : s.heap.get? f = some (lamO X ps b sc pm c' ct)) (hn : H f = none) (hfr : f ∉ frs X.stack)
    (hb : bindArgs (PySem.W.kla_fn "<lambda>" (X.env.qual ++ "<lambda>") ps b sc (cloFrom X.env.cells sc.names []) pm (.ref c') ct) ⟨[], []⟩ = pure [])
    (tk : Takes ((gCx X Ng q sg g cd s H).tr pn xe) W) (hW : ∀ cls d H', E cls d H' → W cls d σ0 H') (hr : Room (k + 1) (X.A.deeper (envOfC q sg s.heap.objs.size g cd)))
    (hbody : ∀ (A : Around) (o : List Env) (s : Shared) (H : Hp), Room k (A.deeper (lamEnv X sc s.heap.objs.size f c')) → PE (lamCx X A o s H E sc f c') b tb)
    (hN : Ng[i]? = some a) (hv : Vis sg a) (d1 : (a == ("__debug__" : Str)) = false) (d2 : (a == ("__classdict__" : Str)) = false) :
    PE ((gCx X Ng q sg g cd s H).tr pn xe) (.Call (.Name a p1) [] [] p2) (fun σZ HZ Q => σZ = σ0 ∧ σZ[i]? = some (some (.ref f)) ∧ HZ c' = some (CodeO c' (X.env.qual ++ "<lambda>")) ∧ tb σ HZ Q) := by
  refine ⟨fun pz sz σz hz Qz J ⟨eσ, h1, h2, h3⟩ => ?_⟩
  have nm := (pe_var (pos := p1) (i := i) hN hv d1 d2).run pz sz σz hz (fun v H1 => v = .ref f ∧ H1 = hz) J ⟨_, h1, rfl, rfl⟩
  refine wpAny_Call_Name_kw (thn nm ?_)
  rintro u s1 ⟨v, H1, J1, r1, ⟨ev, eh⟩⟩
  subst ev
  rw [eh] at J1
  obtain rfl : u = Value.ref f := r1
  have o1 : s1.heap.get? f = some (lamO X ps b sc pm c' ct) := J1.base.keep f _ hf hn hfr (fun y => List.not_mem_nil (show f ∈ ([] : List Addr) from y))
  have go : codeAny (model X.prog X.w) (X.A.deeper (envOfC q sg s.heap.objs.size g cd)) (.call (.ref f) ⟨[], []⟩) (CR (L2.CX X.prog X.w) (envOfC q sg s.heap.objs.size g cd :: X.stack) X.prog X.w hz s1 Qz E) s1 := by
    obtain ⟨⟨oc, vs, t, ho, hd, hc⟩, _, _⟩ := J1.hok c' _ h2
    refine PySem.W.kla_callFunE hr.depth o1 rfl L.co L.gen rfl ⟨c', oc, vs, t, rfl, ho, hd, hc⟩ ?_
    rw [hb]
    refine wpAny_pure (wpAny_newFunctionEnv (fun y hy => (L.own y hy).2) (fun y hy => absurd hy (by simp)) (fun h1' hns hsb => ⟨J1.nolimit.fresh _ hsb, ?_⟩) L.kind)
    show codeAny _ _ (.expr b (lamEnv X sc s1.heap.objs.size f c')) _ _
    have st : Inv (lamCx X (X.A.deeper (envOfC q sg s.heap.objs.size g cd)) (envOfC q sg s.heap.objs.size g cd :: X.stack) s1 hz E sc f c') [] σ hz { s1 with heap := h1', toks := s1.toks + ([] : List (Str × Value)).length } :=
      lam_start2 I L J1.env0 hr.hd J1.base hns (fun b' o' e' => hsb.extBut b' o' (Nat.ne_of_lt (Heap.lt_size e')) (Heap.get?_push_of_some _ e'))
    refine PySem.W.kla_codeExpr (wpAny_mono ((hbody _ _ s1 hz (hr.deeper _)).run [] _ _ hz Qz st h3) ?_ (fun _ _ x => x))
    rintro v' s' ⟨w', H', J', rv, qv⟩
    exact ⟨w', H', J'.os, J'.bare, J'.base, J'.hok, rv, qv⟩
  refine PySem.W.callWith_F0 ⟨_, _, _, _, o1⟩ (wpAny_call (codeAny_mono go ?_))
  intro r s' hq
  cases r with
  | error e =>
    refine tk e s' (XE.of_call J1 (fun cls d H' hE => ?_) hq)
    rw [eσ]
    exact hW cls d H' hE
  | ok fl =>
    cases fl with
    | ret u => exact J1.after hq
    | next => cases hq
    | brk => cases hq
    | cont => cases hq
/-- the def that asks: σ0 its slots where it asks -/
def AsksOf (X : Cx) (Ng : List Str) (x : Str) (sg : Scope) (g : Addr) (cd : Value) (bg : List Stmt) (a : Str) (q : Str) (TT : (XK → Hp → VK → Prop) → Hp → VK → Prop) : Prop :=
  ∀ (f c' : Addr) (s : Shared) (H : Hp) (Q : VK) (tl : XK → Hp → VK → Prop),
    (∀ (σ0 : L2.St) (W : WX) (pn : List (Addr × Obj)) (xe : Value → Shared → Prop) (E : XK) (p1 p2 : Pos), Takes ((gCx X Ng x sg g cd s H).tr pn xe) W → (∀ cls d H', E cls d H' → W cls d σ0 H') →
      PE ((gCx X Ng x sg g cd s H).tr pn xe) (.Call (.Name a p1) [] [] p2) (fun σZ HZ Q => σZ = σ0 ∧ σZ[0]? = some (some (.ref f)) ∧ HZ c' = some (CodeO c' q) ∧ tl E HZ Q)) →
    H c' = some (CodeO c' q) → TT tl H Q → ∃ t, PSs (gCx X Ng x sg g cd s H).nox bg t ∧ t { nx := fun _ H' => Q .non H', rt := Q } (L2.start Ng [.ref f]) H
theorem pe_askcall {X : Cx} {T : List (Addr × Str)} {TT : (XK → Hp → VK → Prop) → Hp → VK → Prop} {x a : Str} {g c P : Addr} {k : Nat} {pg : Arguments} {bg : List Stmt} {sg : Scope} {dV kV doc pm cdv ct oc : Value} {an od : Option Addr} {osl : Array (Option Value)} {Ng : List Str}
    {ps : Arguments} {b : Expr} {sc : Scope} {t : XK → TE} {p lp pos : Pos} (hg : Gl X x) (hm : X.mg x = some (.ref g)) (hk : PySem.W.keepIn X.K (.ref g) = true)
    (lk : X.K.lookup g = some ⟨oc, od, .func (PySem.W.fnOf x x pg bg sg dV kV doc pm an cdv ct), osl⟩) (hcg : PySem.W.codeIn X.K cdv x = true) (hbi : L2.Binds X.K (PySem.W.fnOf x x pg bg sg dV kV doc pm an cdv ct) [a] []) (Sg : FnScope Ng [a] sg) (hN : Ng[0]? = some a) (hv : Vis sg a)
    (hG : AsksOf X Ng x sg g cdv bg a (X.env.qual ++ "<lambda>") TT) (TB : TabB X.base X.mg c P) (hcode : X.env.code = .ref c) (hT : (P, X.env.qual ++ "<lambda>") ∈ T) (hu : ∀ p ∈ T, p.1 = P → p.2 = X.env.qual ++ "<lambda>") (hr : Room (k + 2) X.A) (L : LamS X.env.scope sc) (hdef : defaultsOf ps X.env = ([], []))
    (hb : ∀ (q : Str) (cl : List (Str × Addr)) (pm cv ctv : Value), bindArgs (PySem.W.kla_fn "<lambda>" q ps b sc cl pm cv ctv) ⟨[], []⟩ = pure [])
    (hbody : ∀ (A : Around) (o : List Env) (s : Shared) (H : Hp) (E : XK) (f c' : Addr), Room k (A.deeper (lamEnv X sc s.heap.objs.size f c')) → PE (lamCx X A o s H E sc f c') b (t E))
    (d0 : (x == ("__debug__" : Str)) = false := by decide) (d1 : (a == ("__debug__" : Str)) = false := by decide) (d2 : (a == ("__classdict__" : Str)) = false := by decide) :
    PE X (.Call (.Name x p) [.Lambda ps b sc lp] [] pos) (tLam T TT t) := by
  refine ⟨fun pins s σ H Q I ⟨hTt, h⟩ => wpAny_Call_Name_kw (ld_glob I hg hm (PySem.W.callWith_K (h₀ := X.base) I.ok.mod.kin hk ?_ (by rfl) (by rfl)) d0)⟩
  show wpAny _ _ (spliced ((false, eval (.Lambda ps b sc lp) X.env) :: backTo pos (starEach [] X.env))) _ _ s
  refine Calls.spliced_cons (lam_make2 I TB hcode hT hu hTt hdef (L.has I.ok) fun f c' pm' ctv H1 s' J eN T1 hf hfn hfr hco => Calls.spliced_nil ⟨J.kIn, ?_⟩)
  refine wpAny_call (codeAny_mono (R := CR C8.CX0 X.stack X.prog X.w H1 s' Q C8.E0) (run_ofS (N := Ng) (ps := [a]) (us := [.ref f]) (vs := [.ref f]) lk hcg Sg hr J.env0 (hbi s' [.ref f] J.kIn rfl) (.cons rfl .nil) rfl fun hr' => ?_) fun r s2 hq => ?_)
  · obtain ⟨t', ht, hq⟩ := hG f c' s' H1 Q (fun E H' Q' => t E σ H' Q') (fun σ0 W pn xe E p1 p2 tk hW => act_at (i := 0) J L hf hfn hfr (hb _ _ _ _ _) tk hW hr' (fun A o s H hr2 => hbody A o s H E f c' hr2) hN hv d1 d2) hco (h H1 eN T1)
    exact ⟨t', ht.nox, hq⟩
  · cases r with
    | error e => exact (show False from hq).elim
    | ok fl =>
      cases fl with
      | ret u => exact J.after hq
      | next => cases hq
      | brk => cases hq
      | cont => cases hq
end HL

/-! own exceptions over any built-in base, their __init__ walked as a def; made with any count of arguments -/
namespace HL
open PySem PySem.Spec PyProof.Rows L2
open PySem.Builtin PySem.Builtin.ObjectAttr PySem.HandSPX
section
variable {prog : Program} {w : World} {A : Around} {R : Result → Shared → Prop} {hp : Heap} {g : Array GenState} {d : Drawn} {t : Nat} {os : OsState} {K : PySem.W.Frag} {f : Str} {tk : Tok} {v : Value} {x C : Addr} {fv : Array Value} {cd : ClassData}
/-- what a store on an instance looks up, told of its class alone -/
structure Mro (cd : ClassData) : Prop where
  pass : ∀ self, refuseLoop self "__setattr__" cd.mro = pure ()
  obj : cd.mro.contains (.type "object") = true
  ne : cd.mro.isEmpty = false
  hd : cd.hasDict = true
theorem osaG {o : Obj} {od : Option Obj} (X : K.In hp) (I : PySem.W.InstAt hp x o C od) (hcd : PySem.W.clsIn K C = some cd) (M : Mro cd) (ha : PySem.W.findIn K (.ref C) f = some none)
    (hq : wpAny (model prog w) A.in1 (storeInOwnDict (.ref x) (.ref C) (.str f tk) f v false) (fun r s' => match r with | .done fl => R (.ok fl) s' | .again c' => c'.quiet = true ∧ codeAny (model prog w) A c' R s') (fun e s' => R (.error e) s') ⟨hp, g, d, t, os⟩) :
    codeAny (model prog w) A (.call (.builtin "object.__setattr__") ⟨[.ref x, .str f tk, v], []⟩) R ⟨hp, g, d, t, os⟩ := by
  have SF := F.store_object
  have sub : PySem.W.Looks (model prog w) hp (isInstance (.ref x) (.type "object")) true := I.type.andThen (PySem.W.looks_mroIn X (by unfold PySem.W.mroIn; rw [hcd, Option.bind_some, if_neg (by rw [M.ne]; decide), M.obj]))
  refine codeAny_call_builtin SF.slot.plain SF.entry (@PySem.W.check_slot (model prog w) _ _ ⟨hp, g, d, t, os⟩ "object.__setattr__" "object" "__setattr__" (.ref x) [.str f tk, v] [] _ SF.kind SF.split sub (SF.args (.ref x) (.str f tk) v) ?_)
  have hmr : PySem.W.Looks (model prog w) hp (mroOf (.ref C)) cd.mro := (PySem.W.looks_clsIn X hcd).andThen .now
  have L3 : PySem.W.Looks (model prog w) hp (storeTaker? none) none := .now
  rw [PySem.W.osa_eq, refuse_eq]
  refine wpAny_bind (wpAny_bind (I.type.at (wpAny_bind (hmr.at ?_))))
  rw [M.pass]
  refine wpAny_pure (wpAny_bind (I.type.at (wpAny_bind ((PySem.W.looks_findIn X ha).at (wpAny_bind (L3.at ?_))))))
  exact hq
/-- the first field of an instance -/
theorem store1 (X : K.In hp) (hx : hp.get? x = some { cls := .ref C, data := .fields fv }) (hcd : PySem.W.clsIn K C = some cd) (M : Mro cd) (ha : PySem.W.findIn K (.ref C) f = some none)
    (hq : ∀ h' tk' dx, (∀ b o, b ≠ x → hp.get? b = some o → h'.get? b = some o) → hp.objs.size ≤ dx → dx ≠ x → h'.get? x = some { cls := .ref C, dict := some dx, data := .fields fv } → h'.Ns1 dx (fun y => if y = f then some v else none) → R (.ok (.ret .none)) ⟨h', g, d, tk', os⟩) :
    codeAny (model prog w) A (.call (.builtin "object.__setattr__") ⟨[.ref x, .str f tk, v], []⟩) R ⟨hp, g, d, t, os⟩ := by
  have hxs : x ≠ hp.objs.size := Nat.ne_of_lt (Heap.lt_size hx)
  refine osaG (od := none) X ⟨hx, rfl, rfl, trivial⟩ hcd M ha ?_
  have hc : PySem.W.Looks (model prog w) hp (classData C) cd := PySem.W.looks_clsIn X hcd
  obtain ⟨_, _, _, hdt⟩ := M
  obtain ⟨nm, bs, mro, ns, qn, hd, sn, sb, ab, col, del⟩ := cd
  cases hdt
  unfold storeInOwnDict ownDictForStores
  repeat (first | with_reducible refine store_in_new ?_ ?_ | with_reducible refine wpAny_loadPart_at hx ?_ | with_reducible refine hc.at ?_ | wp_step)
  · have nothing : ∀ e ∈ (#[] : Array DictEntry).toList, False := fun e he => by simp at he
    exact ⟨_, #[], _, (Heap.get?_update_ne _ _ _ _ hxs.symm).trans (Heap.get?_push_at rfl rfl),
      rfl, fun e he => absurd he (by simp), fun _ => rfl⟩
  · intro h' tk' hn' hs
    refine hq h' tk' hp.objs.size ?_ (Nat.le_refl _) hxs.symm ?_ hn'
    · intro b o hb ho
      rw [hs.2 b (Nat.ne_of_lt (Heap.lt_size ho)), Heap.get?_update_ne _ _ _ _ hb]
      exact Heap.get?_push_of_some _ ho
    · rw [hs.2 x hxs]
      exact Heap.get?_update_self _ (Heap.get?_push_of_some _ hx) rfl
/-- a further field -/
theorem store2 {dx : Addr} {m0 : Str → Option Value} {nl : List Str} (X : K.In hp) (hx : hp.get? x = some { cls := .ref C, dict := some dx, data := .fields fv }) (hns : hp.Ns1 dx m0) (hw : Within m0 nl) (hz : nl.length ≤ 1000) (hcd : PySem.W.clsIn K C = some cd) (M : Mro cd) (ha : PySem.W.findIn K (.ref C) f = some none)
    (hq : ∀ h' tk', (∀ b o, b ≠ dx → hp.get? b = some o → h'.get? b = some o) → h'.Ns1 dx (fun y => if y = f then some v else m0 y) → R (.ok (.ret .none)) ⟨h', g, d, tk', os⟩) :
    codeAny (model prog w) A (.call (.builtin "object.__setattr__") ⟨[.ref x, .str f tk, v], []⟩) R ⟨hp, g, d, t, os⟩ := by
  obtain ⟨oD, _, _, hoD, _, _⟩ := hns.count hw
  refine osaG (od := some oD) X ⟨hx, rfl, rfl, hoD⟩ hcd M ha ?_
  have hc : PySem.W.Looks (model prog w) hp (classData C) cd := PySem.W.looks_clsIn X hcd
  obtain ⟨_, _, _, hdt⟩ := M
  obtain ⟨nm, bs, mro, ns, qn, hd, sn, sb, ab, col, del⟩ := cd
  cases hdt
  unfold storeInOwnDict ownDictForStores
  repeat (first | with_reducible refine PySem.OEX.store_in_old hns hw hz ?_ | with_reducible refine wpAny_loadPart_at hx ?_ | with_reducible refine hc.at ?_ | wp_step)
  exact fun h' tk' hn' hs => hq h' tk' (fun b o hb ho => by rw [hs.2 b hb]; exact ho) hn'
end
/-- what the written part says of an own class over a built-in base -/
structure OexB (K : PySem.W.Frag) (C : Addr) (nid : String) (bmB : List Value) : Prop where
  cls : ∃ nm q N bs bm sn sub ab col dd k0 k1 k2 k3 k5, K.lookup C = some (excClassObj nm q C N bs bm true sn sub ab col dd k0 k1 k2 k3 k5 nid) ∧ (∀ X : String, bm.contains (.type X) = bmB.contains (.type X)) ∧ ∀ self, refuseLoop self "__setattr__" (.ref C :: bm) = pure ()
  ob : bmB.contains (.type "object") = true
  sa : PySem.W.findIn K (.ref C) "__setattr__" = some (some (.builtin "object.__setattr__"))
  exC : PySem.W.subIn K (.ref C) (.type "BaseException") = some true
  tyC : PySem.W.typeIn K (.ref C) = some (.type "type")
  kC : PySem.W.keepIn K (.ref C) = true
theorem OexB.mro {K : PySem.W.Frag} {C : Addr} {nid : String} {bmB : List Value} (T : OexB K C nid bmB) : ∃ cd, PySem.W.clsIn K C = some cd ∧ Mro cd := by
  obtain ⟨nm, q, N, bs, bm, sn, sub, ab, col, dd, k0, k1, k2, k3, k5, hC, h1, h2⟩ := T.cls
  refine ⟨{ name := nm, bases := bs, mro := .ref C :: bm, ns := N, qualname := q, hasDict := true, slotNames := sn, subclasses := sub, abstract := ab, collection := col, hasDel := false }, by unfold PySem.W.clsIn; rw [hC] <;> rfl, h2, ?_, rfl, rfl⟩
  show (Value.ref C :: bm).contains (.type "object") = true
  rw [List.contains_cons, h1, T.ob, Bool.or_true]
section
variable {X : Cx} {nid : String} {bmB : List Value} {pins : List (Addr × Obj)} {σ : L2.St} {H : Hp} {s : Shared} {a C dx : Addr} {f : Str} {y : V} {u : Value} {fs : List (Str × V)} {Q : Unit → Shared → Prop} {E : Value → Shared → Prop} {A : Around}
theorem ostN (T : OexB X.K C nid bmB) (I : Inv X pins σ H s) (e : H a = some (exo a C none)) (hno : PySem.W.findIn X.K (.ref C) f = some none) (ry : RelV y u)
    (h : ∀ dx s', H dx = none → dx ≠ a → Inv X pins σ (upd (upd H dx (exd dx [(f, y)])) a (exo a C (some dx))) s' → Q () s') : wpAny (model X.prog X.w) A (setAttr (.ref a) f u) Q E s := by
  obtain ⟨cd, hcl, M⟩ := T.mro
  obtain ⟨t1, ho⟩ := exo_at I.hok e
  obtain ⟨hp, g, d, t, os⟩ := s
  refine PySem.W.set_plain (od := none) I.kIn ⟨ho, rfl, rfl, trivial⟩ T.sa (store1 I.kIn ho hcl M hno fun h' tk' dx k dn dne hx hn => ?_)
  have nH : H dx = none := I.hok.fresh dn
  have old : ∀ {b : Addr} {o : Obj}, hp.get? b = some o → b ≠ dx := fun {b o} q => Nat.ne_of_lt (Nat.lt_of_lt_of_le (Heap.lt_size q) dn)
  have off : ∀ {b : Addr}, H b = none → b ≠ a := fun {b} n z => by rw [z, e] at n; cases n
  have two : ∀ {b : Addr} {o : HO}, H b = some o → exo a C none ≠ o → upd (upd H dx (exd dx [(f, y)])) a (exo a C (some dx)) b = some o := fun {b o} q ne => by
    rw [upd_ne (at_ne e q ne), upd_ne (ne_of_none q nH)]
    exact q
  refine h dx _ nH dne (I.un (t' := tk') { keep := fun b o q n _ _ => k b o (off n) q, slot := fun b o q n _ _ => ⟨o.slots, k b o (off n) q⟩, free := ?fr, there := ?th, tups := fun b xs q => two q exo_tup, frzs := fun b o v q => two q exo_frz, tbls := fun b ps q => ⟨#[], by rw [two q exo_tbl]; simp⟩ } fun b o q => ?ok)
  case fr =>
    intro b o q n _
    rw [upd_ne (off n), upd_ne (old q)]
    exact n
  case th =>
    intro b o q _
    by_cases hb : b = a
    · rw [hb]
      exact ⟨_, hx⟩
    · exact ⟨o, k b o hb q⟩
  case ok =>
    by_cases hb : b = a
    · subst hb
      rw [upd_same] at q
      cases q
      exact exo_ok hx
    rw [upd_ne hb] at q
    by_cases hd : b = dx
    · subst hd
      rw [upd_same] at q
      cases q
      exact exd_ok hn (relO_put (fs := []) ry fun g => True.intro)
    rw [upd_ne hd] at q
    refine (I.hok b o q).stay (fun c v hc z => k c v ?_ z) (fun c hc => two hc exo_own) (fun c xs hc => two hc exo_tup)
    rcases hc with hc | hc
    · rw [hc]; exact hb
    · exact at_ne e hc exo_own
theorem ostO (T : OexB X.K C nid bmB) (I : Inv X pins σ H s) (e : H a = some (exo a C (some dx))) (ed : H dx = some (exd dx fs)) (hl : fs.length ≤ 900) (hno : PySem.W.findIn X.K (.ref C) f = some none) (ry : RelV y u)
    (h : ∀ s', Inv X pins σ (upd H dx (exd dx ((f, y) :: fs))) s' → Q () s') : wpAny (model X.prog X.w) A (setAttr (.ref a) f u) Q E s := by
  obtain ⟨cd, hcl, M⟩ := T.mro
  obtain ⟨t1, ho⟩ := exo_at I.hok e
  obtain ⟨mA, hns, rel⟩ := exd_at I.hok ed
  have hw := within_of rel
  obtain ⟨hp, g, d, t, os⟩ := s
  obtain ⟨oD, _, _, hoD, _, _⟩ := hns.count hw
  refine PySem.W.set_plain (od := some oD) I.kIn ⟨ho, rfl, rfl, hoD⟩ T.sa (store2 I.kIn ho hns hw (by rw [List.length_map]; omega) hcl M hno fun h' tk' k hn => ?_)
  have hd : ∃ o, h'.get? dx = some o := let ⟨o, _, _, e', _⟩ := hn; ⟨o, e'⟩
  exact h _ (I.write (t' := tk') (x := dx) (e := dx) (o := exd dx ((f, y) :: fs)) (by rw [ed]; exact True.intro) (.inl rfl) k hd (exd_ok hn (relO_put ry rel)))
end
/-! ### readings and rules -/
/-- self.f = e -/
def tOstB (K : PySem.W.Frag) (nid : String) (bmB : List Value) (f : Str) (to te : TE) : TS := fun D σ H => te σ H fun y H1 => to σ H1 fun x H2 => ∃ a C : Addr, x = .ref a ∧ OexB K C nid bmB ∧ PySem.W.findIn K (.ref C) f = some none ∧
  ((H2 a = some (exo a C none) ∧ ∀ dx, H2 dx = none → dx ≠ a → D.nx σ (upd (upd H2 dx (exd dx [(f, y)])) a (exo a C (some dx)))) ∨
    ∃ (dx : Addr) (fs : List (Str × V)), H2 a = some (exo a C (some dx)) ∧ H2 dx = some (exd dx fs) ∧ fs.length ≤ 900 ∧ D.nx σ (upd H2 dx (exd dx ((f, y) :: fs))))
section
variable {X : Cx} {nid : String} {bmB : List Value} {o e : Expr} {es : List Expr} {to te : TE} {ta : TA} {f : Str} {p p' pos : Pos}
theorem ps_ostB (ho : PE X o to) (he : PE X e te) (hs : swapsWith e (some (.Attribute o f p')) pos.line X.env = pure false := by rfl) : PS X (.Assign [.Attribute o f p'] e pos) (tOstB X.K nid bmB f to te) := by
  refine ⟨fun pins s σ H D I h => plainObj_wpAny_Assign_Attribute (thn (he.run pins s σ H _ I h) fun v s1 ⟨y, H1, I1, r1, q1⟩ => thn (ho.run pins s1 σ H1 _ I1 q1) ?_) hs⟩
  rintro u s2 ⟨x, H2, I2, r2, a, C, ex, T, hno, q⟩
  subst ex
  obtain rfl : u = Value.ref a := r2
  rcases q with ⟨ea, q⟩ | ⟨dx, fs, ea, ed, hl, q⟩
  · exact ostN T I2 ea hno r1 fun dx s' n ne J => ⟨σ, _, J, q dx n ne⟩
  · exact ostO T I2 ea ed hl hno r1 fun s' J => ⟨σ, _, J, q⟩
/-- the making, the arguments at hand -/
theorem make_at {CX : CXT} {B initId : String} {C fI : Addr} {k : Nat} {fd : FuncData} {ps : List Str} {sp : Sp} (EF : ExcBaseFacts B nid initId bmB) (T : OexB X.K C nid bmB) (iC : PySem.W.findIn X.K (.ref C) "__init__" = some (some (.ref fI))) (tI : PySem.W.typeIn X.K (.ref fI) = some (.type "function"))
    (F1 : FnOk X.prog X.w X.K X.mg X.base CX k fI fd ps sp) (hr : Room (k + 1) X.A) (hb : Binds X.K fd ps []) (hx : Passes CX X (fun _ _ _ => False)) {pins : List (Addr × Obj)} {σ : L2.St} {H1 : Hp} {s1 : Shared} {vs : List V} {us : List Value} {Q : XK} (I1 : Inv X pins σ H1 s1) (r1 : Vals vs us) (hz : vs.length ≤ 1000)
    (q1 : ∀ a, H1 a = none → sp (.ref a :: vs) (upd H1 a (exo a C none)) (fun v H2 => v = .non ∧ ∃ (d : Addr) (fs : List (Str × V)), H2 a = some (exo a C (some d)) ∧ H2 d = some (exd d fs) ∧ H1 d = none ∧ Q (.ref C) (some d) (upd (del H2 a) d (.xd fs))) (fun _ _ _ => False)) :
    wpAny (model X.prog X.w) X.A (call (.ref C) us) (MkP X pins σ Q) X.xe s1 := by
  obtain ⟨nm, q, N, bs, bm, sn, sub, ab, col, dd, k0, k1, k2, k3, k5, hC, h1, h2⟩ := T.cls
  obtain ⟨hp, g, dr, tk, os⟩ := s1
  have le : hp.objs.size ≤ hp.objs.size + 1 := Nat.le_succ _
  have hq := q1 (hp.objs.size + 1) (I1.hok.fresh le)
  have up : ∀ b o, hp.get? b = some o → ((hp.push (PySem.W.kdv_tup us)).push (excO C hp.objs.size)).get? b = some o := fun b o z => Heap.get?_push_of_some _ (Heap.get?_push_of_some _ z)
  have at1 : ((hp.push (PySem.W.kdv_tup us)).push (excO C hp.objs.size)).get? (hp.objs.size + 1) = some (excO C hp.objs.size) := by heap_get
  have I2 : Inv X pins σ (upd H1 (hp.objs.size + 1) (exo (hp.objs.size + 1) C none)) ⟨(hp.push (PySem.W.kdv_tup us)).push (excO C hp.objs.size), g, dr, tk, os⟩ := I1.laid (t' := tk) up le (exo_ok at1)
  have r2 : Vals (V.ref (hp.objs.size + 1) :: vs) (Value.ref (hp.objs.size + 1) :: us) := .cons rfl r1
  have len : (Value.ref (hp.objs.size + 1) :: us ++ []).length = ps.length := by
    rw [List.append_nil, ← r2.length]
    exact F1.len _ _ _ _ hq
  have bi := hb _ (Value.ref (hp.objs.size + 1) :: us) I2.kIn len
  rw [List.append_nil] at bi
  have small : us.length ≤ sizeLine := by
    rw [← Paired.length r1, sizeLine_eq]
    omega
  have run := F1.run _ X.stack _ _ ⟨Value.ref (hp.objs.size + 1) :: us, []⟩ (Value.ref (hp.objs.size + 1) :: us) _ _ (fun _ _ _ => False) (hr.make C us []) (I2.env0.make C us []) bi r2 hq
  refine wpAny_call (call_own EF h1 (I1.kIn _ _ hC) (PySem.W.looks_findIn I1.kIn iC) (fun self => PySem.W.bind_fn I1.kIn self tI) small (codeAny_mono run ?_))
  rintro (er | fl) s' hq'
  · exact hx pins σ _ _ er s' I2 hq'
  · cases fl with
    | ret u =>
      obtain ⟨v, H2, os2, bare2, un2, hok2, rv, ev, d, fs, ea, ed, hd1, q2⟩ := hq'
      subst ev
      exact ⟨rv, mk_end (raises_own T.exC T.tyC) I1 le up un2 hok2 os2 bare2 ea ed hd1 q2⟩
    | next => cases hq'
    | brk => cases hq'
    | cont => cases hq'
def tMkB (C : Addr) (sp : Sp) (ta : TA) : L2.St → Hp → XK → Prop := fun σ H Q => ta σ H fun vs H1 => vs.length ≤ 1000 ∧ ∀ a, H1 a = none → sp (.ref a :: vs) (upd H1 a (exo a C none))
  (fun v H2 => v = .non ∧ ∃ (d : Addr) (fs : List (Str × V)), H2 a = some (exo a C (some d)) ∧ H2 d = some (exd d fs) ∧ H1 d = none ∧ Q (.ref C) (some d) (upd (del H2 a) d (.xd fs))) (fun _ _ _ => False)
theorem pmk_oexB {CX : CXT} {B initId : String} {x : Str} {C fI : Addr} {k : Nat} {fd : FuncData} {ps : List Str} {sp : Sp} (EF : ExcBaseFacts B nid initId bmB) (T : OexB X.K C nid bmB) (iC : PySem.W.findIn X.K (.ref C) "__init__" = some (some (.ref fI))) (tI : PySem.W.typeIn X.K (.ref fI) = some (.type "function"))
    (F1 : FnOk X.prog X.w X.K X.mg X.base CX k fI fd ps sp) (hr : Room (k + 1) X.A) (hb : Binds X.K fd ps []) (hx : Passes CX X (fun _ _ _ => False)) (hg : Gl X x) (hm : X.mg x = some (.ref C)) (ha : PA X (e :: es) ta)
    (hdb : (x == ("__debug__" : Str)) = false := by decide) (he : starEach (e :: es) X.env = (false, eval e X.env) :: starEach es X.env := by rfl) (hpl : (backTo pos (starEach es X.env)).any (·.1) = false := by rfl) :
    PMk X (.Call (.Name x p) (e :: es) [] pos) (tMkB C sp ta) := fun pins s σ H Q I h =>
  wpAny_Call_Name_kw (ld_glob I hg hm (PySem.W.callWith_K (h₀ := X.base) I.ok.mod.kin T.kC (thn (ha.run pos pins s σ H _ I h) fun us s1 ⟨vs, H1, I1, r1, hz, q1⟩ => ⟨I1.kIn, make_at EF T iC tI F1 hr hb hx I1 r1 hz q1⟩) he hpl) hdb)
theorem pmk_oexB0 {CX : CXT} {B initId : String} {x : Str} {C fI : Addr} {k : Nat} {fd : FuncData} {ps : List Str} {sp : Sp} (EF : ExcBaseFacts B nid initId bmB) (T : OexB X.K C nid bmB) (iC : PySem.W.findIn X.K (.ref C) "__init__" = some (some (.ref fI))) (tI : PySem.W.typeIn X.K (.ref fI) = some (.type "function"))
    (F1 : FnOk X.prog X.w X.K X.mg X.base CX k fI fd ps sp) (hr : Room (k + 1) X.A) (hb : Binds X.K fd ps []) (hx : Passes CX X (fun _ _ _ => False)) (hg : Gl X x) (hm : X.mg x = some (.ref C)) (hdb : (x == ("__debug__" : Str)) = false := by decide) :
    PMk X (.Call (.Name x p) [] [] pos) (tMkB C sp tNil) := fun pins s σ H Q I h =>
  wpAny_Call_Name_kw (ld_glob I hg hm (PySem.W.callWith_K0 I.kIn T.kC (make_at EF T iC tI F1 hr hb hx I .nil (Nat.zero_le _) h.2)) hdb)
end
end HL

namespace HL
open PySem PySem.Spec PyProof.Rows L2
/-! sorted(t), t a tuple of ints -/
def rSortedTup (K : PySem.W.Frag) : List V → Hp → VK → Prop := fun vs H Q => ∃ (a : Addr) (ns : List Int), vs = [V.ref a] ∧ SqT K H a (ns.map V.int) ∧ ∀ (ns' : List Int) (p : Addr), ns'.Perm ns → ns'.Pairwise (· ≤ ·) → H p = none → Q (.ref p) (upd H p (.lst (ns'.map V.int)))
theorem cr_sortedTup {X : Cx} : CallR X (.builtin "sorted") (rSortedTup X.K) := by
  intro pins s σ H vs us Q I r h
  obtain ⟨a, ns, rfl, hs, q⟩ := h
  obtain ⟨its, rv, ⟨o, ho, hc, n, hd⟩, hz⟩ := I.tuple hs
  rw [Vals.ref1 r]
  have hi := rv.ints
  have hz' : its.length ≤ sizeLine := by rw [← rv.length]; exact hz
  refine Calls.call_function_entry kind_sorted plain_sorted entry_sorted (args_sorted1 _) ?_
  unfold Builtin.«sorted»
  refine wpAny_bind (m := checkCount "sorted" 1 1 _) (wpAny_pure (wpAny_bind (wpAny_collect_seq (T := "tuple") a (.inr rfl) ho hc hd (fun h1 k1 => ?_) (by rw [List.size_toArray]; exact hz'))))
  rw [List.toList_toArray]
  refine wpAny_bind (wpAny_newList ?_ hz')
  have at1 : (h1.push (seqObj "list" its.toArray 0)).get? h1.objs.size = some (seqObj "list" its.toArray 0) := Heap.get?_push_size _ rfl
  have I1 := I.kept (t' := s.toks) k1
  refine wpAny_bind (wpAny_holding (wpAny_call_entry slot_list_sort ⟨_, at1, rfl⟩ entry_list_sort (SrtO.list_sort_ord SrtO.swo_int at1 hz' (fun h2 => SrtO.ints_sortable hi h2) fun out p1 p2 => ⟨_, rfl, ?_⟩) (args_list_sort _)))
  refine wpAny_pure ⟨_, rfl, ?_⟩
  obtain ⟨j1, j2, j3⟩ := SrtO.ints_out hi p1 p2
  obtain ⟨ep, he⟩ := sortedHeap_at (vs := its) (out := out.toArray) at1
  have hl : ((out.map SrtO.iv).map V.int).length ≤ sizeLine := by
    rw [List.length_map, j2.length_eq]
    rw [List.length_map] at hz
    exact hz
  refine ⟨.ref _, upd H h1.objs.size (.lst ((out.map SrtO.iv).map V.int)), I1.laid (t' := s.toks) (fun b o e => ?_) (Nat.le_refl _) ⟨hl, out, ep, vals_of_ints j1, he⟩, rfl, q _ _ j2 j3 (I1.hok.fresh (Nat.le_refl _))⟩
  have lb : b < h1.objs.size := Heap.lt_size e
  rw [sortedHeap_old (Nat.ne_of_lt lb) (by rw [Heap.size_push]; exact Nat.lt_succ_of_lt lb)]
  exact Heap.get?_push_of_some _ e
end HL

namespace HL
open PySem PySem.Spec PyProof.Rows L2
open AutoSeq1 (wpAny_loadPart')
/-! t * k, k from 0 on: no times is a new tuple of nothing -/
theorem tuple_mul0 (l : Addr) (items : Array Value) (n : Nat) (dd : Option Addr) (sl : Array (Option Value)) (u : Tok) (he : items.isEmpty = false) :
    Meets (Builtin.«tuple.__mul__» ⟨[.ref l, .int 0 u], []⟩)
      (fun _ R s => s.heap.get? l = some { cls := .type "tuple", dict := dd, data := .seq items n, slots := sl } ∧ R (.ok (.ret (.ref s.heap.objs.size))) { s with heap := s.heap.push { cls := .type "tuple", data := .seq #[] }, toks := s.toks }) :=
  .of_wp fun prog w A R s h => by
    obtain ⟨hp, g, d, tk, os⟩ := s
    obtain ⟨hl, h⟩ := h
    have f1 := AutoSeq1.idx_int
    have e1 : ¬ ((items.isEmpty || ((0 : Int) == 1)) = true) := by rw [he]; decide
    have e2 : (decide ((0 : Int) ≤ 0) || items.isEmpty) = true := by rw [he]; decide
    have e3 : ¬ ((#[] : Array Value).size > sizeLine) := by show ¬ (0 > sizeLine); decide
    wp_walk using wpAny_loadPart' hl
    repeat (first
      | (refine wpAny_ite_false (by decide) ?_; wp_walk using wpAny_loadPart' hl)
      | (refine wpAny_ite_false (decide_eq_false e1) ?_; wp_walk using wpAny_loadPart' hl)
      | (refine wpAny_ite_true (decide_eq_true e2) ?_; wp_walk using wpAny_loadPart' hl)
      | (refine wpAny_ite_true (by decide) ?_; wp_walk using wpAny_loadPart' hl)
      | (refine wpAny_ite_false (decide_eq_false e3) ?_; wp_walk using wpAny_loadPart' hl))
    exact ⟨_, rfl, h⟩
/-- no times, or as often as rRepA lets -/
def rRepN (K : PySem.W.Frag) : R2 := fun x y H Q => (∃ l xs, x = .ref l ∧ y = .int 0 ∧ SqT K H l xs ∧ xs ≠ [] ∧ ∀ p, H p = none → Q (.ref p) (upd H p (.tup []))) ∨ rRepA K x y H Q
theorem op_repN {X : Cx} : OpR X (binaryOp .Mult) (rRepN X.K) := by
  intro pins s σ H x y v u Q I rx ry h
  rcases h with ⟨l, xs, rfl, rfl, hT, hne, q⟩ | h
  · cases rx
    obtain ⟨t, rfl⟩ := ry
    obtain ⟨its, r, ⟨⟨cl, dd, dat, sl⟩, ho, hc, n, hd⟩, _⟩ := I.tuple hT
    simp only at hc hd
    subst hc hd
    have he : its.toArray.isEmpty = false := by
      cases its with
      | nil => exact absurd (List.eq_nil_of_length_eq_zero r.length) hne
      | cons a b => rfl
    refine wpAny_binaryOp_repeat_ref (T := "tuple") (U := "int") (by decide) ⟨_, ho, rfl⟩ (fun s' => typeIs_int s' 0 t) noFill_tuple_mul F.fills_int_mul F.slot_int_rmul repeat_tuple F.slot_int_index.lookup
      (call_meets F.slot_int_rmul (typeIs_int s 0 t) F.entry_int_rmul (F.args_int_rmul_2 _ _) (int_rmul_tuple 0 t l its.toArray n dd sl)
        ⟨ho, rfl, ⟨_, ho, rfl⟩, call_meets F.slot_tuple_mul ⟨_, ho, rfl⟩ F.entry_tuple_mul (F.args_tuple_mul_2 _ _) (tuple_mul0 l its.toArray n dd sl t he) ⟨ho, ?_⟩⟩)
    exact ⟨.ref s.heap.objs.size, _, I.laid (t' := s.toks) (o := .tup []) (fun b ob e => Heap.get?_push_of_some _ e) (Nat.le_refl _) ⟨Nat.zero_le _, [], .nil, IsTup.new _ _⟩, rfl, q _ (I.hok.fresh (Nat.le_refl _))⟩
  · exact op_repA pins s σ H x y v u Q I rx ry h
end HL

namespace HL
open PySem PySem.Spec PyProof.Rows L2
/-! {t: v}, t a tuple of ints and texts -/
def tDisp1T (tk tv : TE) : TE := fun σ H Q => ∀ p, H p = none → tk σ (upd H p (.dT [])) fun x H1 => tv σ H1 fun y H2 => ∃ (k : List Key) (b : Addr), x = .ref b ∧ H2 b = some (.tup (k.map kV)) ∧ H2 p = some (.dT []) ∧ Q (.ref p) (upd H2 p (.dT [(k, y)]))
theorem pe_disp1T {X : Cx} {ke ve : Expr} {pos : Pos} {tk tv : TE} (hu : X.A.units + 1 < cLine) (hk : PE X ke tk) (hv : PE X ve tv) : PE X (.Dict [some ke] [ve] pos) (tDisp1T tk tv) := by
  refine ⟨fun pins s σ H Q I q => ?_⟩
  have hn := I.hok.fresh (Nat.le_refl s.heap.objs.size)
  have I1 := I.laid (a := s.heap.objs.size) (o := .dT []) (h' := s.heap.push { cls := .type "dict", data := .dict #[] }) (t' := s.toks) (fun _ _ e => Heap.get?_push_of_some _ e) (Nat.le_refl _) (dt_empty s.heap I.big)
  rw [arm_eval_Dict, zip_pairTrees [some ke] [ve] X.env pos rfl rfl, dictDisplay_pairs (pairTrees [some ke] [ve] X.env pos) (fun z => by cases z) (by show 1 < 17; decide)]
  refine wpAny_bind (wpAny_standAt (wpAny_bind ?_))
  unfold subDict
  refine wpAny_bind (wpAny_alloc (wpAny_bind (wpAny_holding ?_)))
  rw [if_pos (show (pairTrees [some ke] [ve] X.env pos).length ≤ 15 by show 1 ≤ 15; decide)]
  refine wpAny_bind (pairTrees_cons_walk (thn (hk.run pins _ σ _ _ I1 (q _ hn)) fun u s1 ⟨x, H1, I2, rx, q1⟩ => thn (hv.run pins s1 σ H1 _ I2 q1) fun w2 s2 ⟨y, H2, I3, ry, q2⟩ => pairTrees_nil_walk (wpAny_holding ?_)))
  obtain ⟨k, b, rfl, hb, hp, q3⟩ := q2
  cases (show u = Value.ref b from rx)
  obtain ⟨z, hd, xs, rel, dd⟩ := dt_of I3.hok hp
  rw [List.forIn_cons]
  refine wpAny_bind (wpAny_bind ?_)
  show wpAny (model X.prog X.w) X.A (dictSet s.heap.objs.size (.ref b) w2 >>= fun _ => pure (ForInStep.yield PUnit.unit)) _ _ _
  refine wpAny_bind (wpAny_dictSet_heap (hsz := by rw [← Paired.length rel]; exact z) (show (tupleKind (mixKind X.prog X.w)).room X.A from Nat.lt_of_le_of_lt (Nat.le_succ _) hu) (key_of I3.hok hb) dd fun h' dd' hs => wpAny_pure ?_)
  show wpAny (model X.prog X.w) X.A (forIn [] PUnit.unit _) _ _ _
  rw [List.forIn_nil]
  refine wpAny_pure (wpAny_pure (wpAny_pure (wpAny_pure ⟨.ref s.heap.objs.size, _, ?_, rfl, q3⟩)))
  obtain ⟨o, es, ep, hq, h2, h3, h4, _, h5⟩ := dd'
  cases rel
  refine d_write I3 (by rw [hp]; exact True.intro) hs ⟨o, hq⟩ ⟨by show 1 ≤ sizeLine; decide, hd, _, ((KT.put (H := H2) .nil k hb ry)).keeps fun c ys ec => ?_, o, es, ep, hq, h2, h3, h4, h5⟩
  rw [upd_ne (ne_of ec hp (fun z => nomatch z))]
  exact ec
end HL

namespace HL
open PySem PySem.Spec PyProof.Rows L2 HT
/-! t += u, both tuples -/
theorem noI_tup : typeLookup (.type "tuple") (dunderI "add") = pure none := by rw [typeLookup_type, builtinLookup_eq_fast]; kernel_rfl
section
variable {X : Cx}
theorem ip_catA : PIp X .Add (rCatA X.K) := by
  intro pins s σ H x y v u Q I rx ry h
  obtain ⟨a, b, xs, ys, rfl, rfl, ha, hb, hz, q0, q1, q2⟩ := h
  cases rx
  cases ry
  obtain ⟨is1, r1, p1, _⟩ := I.tuple ha
  obtain ⟨is2, r2, p2, _⟩ := I.tuple hb
  obtain ⟨⟨c1, d1, da1, sl1⟩, o1, k1, n1, e1⟩ := id p1
  obtain ⟨⟨c2, d2, da2, sl2⟩, o2, k2, n2, e2⟩ := id p2
  simp only at k1 e1 k2 e2
  subst k1 e1 k2 e2
  have go : ∀ {S : PySem.Spec} (_ : Meets ((fun B : Builtin => B ⟨[.ref a, .ref b], []⟩) _) S) (_ : S X.A (wants (EP X pins σ Q) X.xe) s), wpAny (model X.prog X.w) X.A (inplaceOp .Add (.ref a) (.ref b)) (EP X pins σ Q) X.xe s :=
    fun g h => PyProof.Rows.inplaceOp_concat ⟨_, o1, rfl⟩ ⟨_, o2, rfl⟩ noI_tup noFill_tuple_add seq_tuple_add (call_meets PySem.F.slot_tuple_add ⟨_, o1, rfl⟩ PySem.F.entry_tuple_add (PySem.F.args_tuple_add_2 _ _) g h)
  by_cases hx : xs = []
  · subst hx
    cases r1
    exact go (tuple_addW0 a b ([] : List Value).toArray is2.toArray n1 n2 d1 d2 sl1 sl2 (by simp)) ⟨o1, o2, ⟨.ref b, H, I, rfl, q0 rfl⟩⟩
  · have hv : is1 ≠ [] := fun z => hx (r1.nil_iff.mp z)
    by_cases hy : is2 = []
    · exact go (tuple_addW1 a b is1.toArray is2.toArray n1 n2 d1 d2 sl1 sl2 (by simpa using hv) (by simp [hy])) ⟨o1, o2, ⟨.ref a, H, I, rfl, q1 hx (r2.nil_iff.mp hy)⟩⟩
    · refine go (tuple_addW2 a b is1.toArray is2.toArray n1 n2 d1 d2 sl1 sl2 (by simpa using hv) (by simpa using hy) (by rw [List.size_toArray, List.size_toArray, ← r1.length, ← r2.length]; exact hz)) ⟨o1, o2, ?_⟩
      rw [show is1.toArray ++ is2.toArray = (is1 ++ is2).toArray by simp]
      refine ⟨.ref s.heap.objs.size, _, I.laid (t' := s.toks) (o := .tup (xs ++ ys)) (fun c oc q => Heap.get?_push_of_some _ q) (Nat.le_refl _) ?_, rfl, q2 hx (fun w => hy (r2.nil_iff.mpr w)) _ (I.hok.fresh (Nat.le_refl _))⟩
      exact ⟨by rw [List.length_append]; exact hz, is1 ++ is2, r1.append r2, IsTup.new _ _⟩
end
end HL

namespace HL
open PySem PySem.Spec PyProof.Rows L2
/-! sorted of a list of rows (tuples of as many whole numbers each, from 0 to below B) that rise already -/
def codeV (h : Heap) (B : Int) (v u : Value) : Bool := decide (TS.code B (TS.intsOf h v) < TS.code B (TS.intsOf h u))
theorem codeV_swo (h : Heap) (B : Int) : SrtO.Swo (codeV h B) := by
  refine ⟨fun x y e => ?_, fun x y z e1 e2 => ?_⟩
  · have := of_decide_eq_true e
    exact decide_eq_false (by omega)
  · have a1 := of_decide_eq_false e1
    have a2 := of_decide_eq_false e2
    exact decide_eq_false (by omega)
theorem vals_refs : ∀ {us : List Value} {as : List Addr}, (∀ u ∈ us, ∃ a, u = Value.ref a) → as.map V.ref = us.map backV → us = as.map Value.ref
  | [], [], _, _ => rfl
  | [], _ :: _, _, e => by simp at e
  | _ :: _, [], _, e => by simp at e
  | u :: us, a :: as, h, e => by
    obtain ⟨b, rfl⟩ := h u List.mem_cons_self
    rw [List.map_cons, List.map_cons] at e
    obtain ⟨e1, e2⟩ := List.cons.inj e
    have e3 : V.ref a = V.ref b := e1
    rw [List.map_cons, V.ref.inj e3, vals_refs (fun u hu => h u (List.mem_cons_of_mem _ hu)) e2]
theorem sortable_rows {prog : Program} {w : World} {A : Around} {s : Shared} {a : Addr} {vs : List Value} {d : Nat} {B : Int} {f : Value → Value → Bool} (h0 : 0 < vs.length) (hd : 1 ≤ d) (x : TS.TupsOk s.heap d B vs) (hf : ∀ v u ns ms, v ∈ vs → u ∈ vs → TS.TupInts s.heap v ns → TS.TupInts s.heap u ms → f v u = decide (TS.code B ns < TS.code B ms))
    (ha : ∀ o, s.heap.get? a = some o → o.cls ≠ .type "tuple") : SrtO.SortableO prog w A s a vs f := by
  intro h' keep
  have kk : ∀ b o, s.heap.get? b = some o → o.cls = .type "tuple" → h'.get? b = some o := fun b o e c => keep b o (fun z => by subst z; exact ha o e c) e
  have x' := x.keeps kk
  obtain ⟨fs, h1, h2, h3⟩ := TS.firsts_of hd vs x'
  refine ⟨tuples' true, fun Q E hq => ?_, ?_⟩
  · refine PySem.W.kat_kind (T := .type "int") h1 (by omega) (fun g hm => ?_) (by rfl) ?_
    · obtain ⟨n, t, rfl⟩ := h3 g hm
      exact PySem.W.Looks.now
    · rw [show (Value.type "int" != Value.type "tuple") = true by first | decide +kernel | rfl | decide]
      exact hq
  · intro p q hp hq
    obtain ⟨ns, t1, l1, b1⟩ := x _ hp
    obtain ⟨ms, t2, l2, b2⟩ := x _ hq
    show wpAny (model prog w) A (keyLt' (tuples' true) p.1 q.1) (fun r s' => s' = { s with heap := h' } ∧ r = f p.1 q.1) (fun _ _ => False) { s with heap := h' }
    rw [hf _ _ _ _ hp hq t1 t2]
    obtain ⟨a1, xs, e1, ⟨o1, ho1, hc1, n1, hd1⟩, i1⟩ := t1.keeps kk
    obtain ⟨a2, ys, e2, ⟨o2, ho2, hc2, n2, hd2⟩, i2⟩ := t2.keeps kk
    rw [e1, e2]
    refine PySem.W.kat_lt ho1 hd1 ho2 hd2 ?_
    have z1 := i1.length
    have z2 := i2.length
    rw [Array.length_toList] at z1 z2
    rw [show decide (xs.size < ys.size) = false from decide_eq_false (by omega)]
    exact TS.lex_ints 0 i1 i2 (by omega) b1 b2 ⟨rfl, rfl⟩
def rSortedR (K : PySem.W.Frag) : List V → Hp → VK → Prop := fun vs H Q => ∃ (a : Addr) (as : List Addr) (rows : List (List Int)) (d : Nat) (B : Int), vs = [V.ref a] ∧ SqL K H a (as.map V.ref) ∧ as.length = rows.length ∧
  (∀ (i : Nat) (b : Addr) (r : List Int), as[i]? = some b → rows[i]? = some r → H b = some (.tup (r.map V.int))) ∧ 1 ≤ d ∧ (∀ r ∈ rows, r.length = d ∧ TS.Bd B r) ∧ rows.Pairwise (fun r s => TS.code B r < TS.code B s) ∧ ∀ p, H p = none → Q (.ref p) (upd H p (.lst (as.map V.ref)))
theorem cr_sortedR {X : Cx} : CallR X (.builtin "sorted") (rSortedR X.K) := by
  intro pins s σ H vs us Q I r h
  obtain ⟨a, as, rows, d, B, rfl, hs, hlen, hat, hd, hok, hrise, q⟩ := h
  obtain ⟨its, rv, hl, hz⟩ := I.list hs
  obtain ⟨u, rfl, ru⟩ := vals1 r
  obtain rfl : u = Value.ref a := ru
  obtain ⟨e1, e2⟩ := refs_back rv fun x m => by
    obtain ⟨b, _, rfl⟩ := List.mem_map.mp m
    exact ⟨b, rfl⟩
  obtain rfl := vals_refs e2 e1
  have tup : ∀ (i : Nat) (b : Addr) (r : List Int), as[i]? = some b → rows[i]? = some r → TS.TupInts s.heap (.ref b) r := fun i b r h1 h2 => by
    obtain ⟨_, its2, r2, o, ho, hc, n, hdt⟩ := I.hok _ _ (hat i b r h1 h2)
    exact ⟨b, its2.toArray, rfl, ⟨o, ho, hc, n, hdt⟩, by rw [List.toList_toArray]; exact r2.ints⟩
  have row : ∀ (i : Nat) (b : Addr), as[i]? = some b → ∃ r, rows[i]? = some r := fun i b hb => by
    have := (List.getElem?_eq_some_iff.mp hb).1
    exact ⟨_, List.getElem?_eq_getElem (by omega)⟩
  have tok : TS.TupsOk s.heap d B (as.map Value.ref) := fun v hv => by
    obtain ⟨b, hb, rfl⟩ := List.mem_map.mp hv
    obtain ⟨i, hi, e⟩ := List.mem_iff_getElem.mp hb
    have hb' : as[i]? = some b := by rw [List.getElem?_eq_getElem hi, e]
    obtain ⟨r, hr⟩ := row i b hb'
    obtain ⟨k1, k2⟩ := hok r (List.mem_of_getElem? hr)
    exact ⟨r, tup i b r hb' hr, k1, k2⟩
  have srt : SrtO.Srtd (codeV s.heap B) (as.map Value.ref) := by
    refine List.pairwise_iff_getElem.mpr fun i j hi hj hij => ?_
    rw [List.length_map] at hi hj
    have hi' : as[i]? = some as[i] := List.getElem?_eq_getElem hi
    have hj' : as[j]? = some as[j] := List.getElem?_eq_getElem hj
    have ri : rows[i]? = some (rows[i]'(by omega)) := List.getElem?_eq_getElem _
    have rj : rows[j]? = some (rows[j]'(by omega)) := List.getElem?_eq_getElem _
    have := List.pairwise_iff_getElem.mp hrise i j (by omega) (by omega) hij
    rw [List.getElem_map, List.getElem_map]
    unfold codeV
    rw [(tup j _ _ hj' rj).ints, (tup i _ _ hi' ri).ints]
    exact decide_eq_false (by omega)
  have hz' : (as.map Value.ref).length ≤ sizeLine := by rw [List.length_map]; rw [List.length_map] at hz; exact hz
  refine SrtO.sorted_ord (codeV_swo s.heap B) hl.isList hz' (fun h2 h₁ a' ha kk => ?_) fun out hso hb => ?_
  · refine sortable_rows (s := { s with heap := h₁ }) (d := d) (B := B) (by omega) hd (tok.keeps fun b o e _ => (kk b o e).2) (fun v u ns ms mv mu tv tu => ?_) fun o e => ?_
    · obtain ⟨ns', tv', _⟩ := tok v mv
      obtain ⟨ms', tu', _⟩ := tok u mu
      have kv := (tv'.keeps fun b o e _ => (kk b o e).2).ints
      have ku := (tu'.keeps fun b o e _ => (kk b o e).2).ints
      have ev : ns = ns' := tv.ints.symm.trans kv
      have eu : ms = ms' := tu.ints.symm.trans ku
      unfold codeV
      rw [tv'.ints, tu'.ints, ev, eu]
    · have e' : some o = some (seqObj "list" (as.map Value.ref).toArray 0) := e.symm.trans ha
      cases e'
      intro c
      exact absurd (Value.type.inj c) (by decide)
  · have eo := SrtO.stb_uniq (codeV_swo s.heap B) hso srt hb
    subst eo
    obtain ⟨n, hn⟩ := sortedAll_at s.heap (as.map Value.ref) (as.map Value.ref).toArray
    refine ⟨.ref _, upd H (s.heap.objs.size + 1) (.lst (as.map V.ref)), I.laid (t' := s.toks) (fun b o e => sortedAll_old e) (Nat.le_succ _) ⟨hz, as.map Value.ref, n, rv, hn⟩, rfl, q _ (I.hok.fresh (Nat.le_succ _))⟩
end HL

namespace HL
open PySem PySem.Spec PyProof.Rows L2
/-! xs[i] of a list, read for xs[i] += e -/
def rGetL (K : PySem.W.Frag) : V → V → Hp → VK → Prop := fun x y H Q => ∃ p xs i z, x = .ref p ∧ y = .int i ∧ SqL K H p xs ∧ 0 ≤ i ∧ atI xs i = some z ∧ Q z H
theorem get_list {X : Cx} : PGet X (rGetL X.K) := by
  intro pins s σ H x y v u Q I rx ry h
  obtain ⟨p, xs, i, z, rfl, rfl, hq, h0, he, q⟩ := h
  cases rx
  obtain ⟨t, rfl⟩ := ry
  obtain ⟨its, r, pl, hz⟩ := I.list hq
  obtain ⟨j, h1, h2, h3, h4, h5⟩ := atI_get he
  obtain ⟨w, ew, rw'⟩ := r.get h2
  have hl := r.length
  have hn := line63
  have fin : EP X pins σ Q w s := ⟨z, H, I, rw', q⟩
  have hj : i.toNat = j := by
    rw [seqIndex_of h0 h5] at h1
    exact Option.some.inj h1
  exact wpAny_getItem_list pl.isList h0 (by omega) (by rw [hj]; simpa using ew) fin
end HL

namespace HL
open PySem PySem.Spec PyProof.Rows L2
open PySem.W (KeyPure EachIs)
open PySem.Spec PySem.W
open LamX (CodeO Tabs TabB ExtN lamEnv lam_make2)
/-! sorted(rows, key=lambda row: abs(row[place])): rows of whole numbers, the place a name of the def -/
/-- the names of such a lambda: its one parameter, the place of the def around it, abs -/
structure LamK (sd sc : Scope) (r pl : Str) : Prop where
  kind : sc.kind = .function
  co : sc.isCoroutine = false
  gen : sc.isGenerator = false
  nocell : ∀ y ∈ sc.names, y.2 ≠ .cell
  row : sc.names.lookup r = some .local
  place : sc.names.lookup pl = some .free
  ab : sc.names.lookup (Str.ofString "abs") = some .globalImplicit
  only : ∀ y ∈ sc.names, y.2 = .free → y.1 = pl
  out : sd.names.lookup pl = some .cell
def lamKB (sd sc : Scope) (r pl : Str) : Bool :=
  decide (sc.kind = .function) && !sc.isCoroutine && !sc.isGenerator && (sc.names.all fun y => !decide (y.2 = .cell)) && decide (sc.names.lookup r = some .local) && decide (sc.names.lookup pl = some .free) && decide (sc.names.lookup (Str.ofString "abs") = some .globalImplicit) &&
    (sc.names.all fun y => !decide (y.2 = .free) || decide (y.1 = pl)) && decide (sd.names.lookup pl = some .cell)
theorem lamK_by {sd sc : Scope} {r pl : Str} (h : lamKB sd sc r pl = true) : LamK sd sc r pl := by
  unfold lamKB at h
  simp only [Bool.and_eq_true, Bool.or_eq_true, Bool.not_eq_true', decide_eq_true_eq, decide_eq_false_iff_not, List.all_eq_true] at h
  obtain ⟨⟨⟨⟨⟨⟨⟨⟨h1, h2⟩, h3⟩, h4⟩, h5⟩, h6⟩, h7⟩, h8⟩, h9⟩ := h
  exact ⟨h1, h2, h3, h4, h5, h6, h7, fun y hy e => (h8 y hy).resolve_left fun z => z e, h9⟩
def absI (z : Int) : Int := if z < 0 then -z else z
section
variable {X : Cx} {pins : List (Addr × Obj)} {σ : L2.St} {H : Hp} {s : Shared}
theorem key_turn {sc : Scope} {ps : Arguments} {r pl : Str} {f c' : Addr} {pm ct : Value} {i : Nat} {n z : Int} {p1 p2 p3 p4 p5 : Pos} {a : Addr} {xs : List Int}
    (I : Inv X pins σ H s) (L : LamK X.env.scope sc r pl) (hf : s.heap.get? f = some (lamO X ps (.Call (.Name "abs" p1) [.Subscript (.Name r p2) (.Name pl p3) p4] [] p5) sc pm c' ct)) (hco : H c' = some (CodeO c' (X.env.qual ++ "<lambda>")))
    (hb : ∀ v, bindArgs (PySem.W.kla_fn "<lambda>" (X.env.qual ++ "<lambda>") ps (.Call (.Name "abs" p1) [.Subscript (.Name r p2) (.Name pl p3) p4] [] p5) sc (cloFrom X.env.cells sc.names []) pm (.ref c') ct) ⟨[v], []⟩ = pure [(r, v)])
    (hm : X.mg "abs" = none) (hN : X.N[i]? = some pl) (hσ : σ[i]? = some (some (.int n))) (hr : Room 3 X.A) (dr : (r == ("__debug__" : Str)) = false) (dp : (pl == ("__debug__" : Str)) = false) (dp2 : (pl == ("__classdict__" : Str)) = false)
    (ha : H a = some (.tup (xs.map V.int))) (hat : atI (xs.map V.int) n = some (.int z)) (g : Heap) (tk : Nat) (kp : ∀ b o, s.heap.get? b = some o → g.get? b = some o) :
    wpAny (model X.prog X.w) X.A.in1.in1 (call (.ref f) [.ref a]) (KeyPure (.int (absI z)) { s with heap := g, toks := tk }) (fun _ _ => False) { s with heap := g, toks := tk } := by
  obtain ⟨cp, hcp⟩ : ∃ c, X.env.cells.lookup pl = some c := I.ok.has _ (.inl L.out)
  have hclo : (cloFrom X.env.cells sc.names []).lookup pl = some cp := by
    have hy : (pl, NameKind.free) ∈ sc.names := PySem.mem_of_lookup L.place
    obtain ⟨c2, h2⟩ := mem_lookup (cloFrom_has (cells := X.env.cells) (acc := []) hy)
    rcases cloFrom_mem (PySem.mem_of_lookup h2) with hm | ⟨h1, h3⟩
    · cases hm
    · rw [h2, h3, hcp]
      rfl
  have hplv : ∃ t, s.heap.IsCell cp (some (.int n t)) := by
    obtain ⟨m, hn, hl⟩ := I.loc
    obtain ⟨u, ru, q⟩ := hl i pl _ hN hσ (.inr (.inl L.out))
    obtain ⟨t, rfl⟩ := ru
    rcases q with ⟨k, _⟩ | ⟨_, c, e, hc⟩
    · have k : X.env.scope.names.lookup pl = some .local := k
      rw [L.out] at k
      cases k
    · rw [hcp] at e
      cases e
      exact ⟨t, hc⟩
  obtain ⟨t, hcell⟩ := hplv
  obtain ⟨its, rv, htp, hz⟩ := I.tuple (a := a) (SqT.of ha)
  obtain ⟨j, h1, h2, h3, h4, h5⟩ := atI_get hat
  obtain ⟨w, ew, rw'⟩ := rv.get h2
  obtain ⟨tz, rfl⟩ := rw'
  have hl := rv.length
  have hn63 := line63
  have of1 : g.get? f = some (lamO X ps (.Call (.Name "abs" p1) [.Subscript (.Name r p2) (.Name pl p3) p4] [] p5) sc pm c' ct) := kp _ _ hf
  obtain ⟨⟨oc, vs, tc, hoc, hdc, hvc⟩, _, _⟩ := I.hok c' _ hco
  have dpth : X.A.in1.in1.depth < recursionLimit := by
    have := hr.dp
    show X.A.depth < _
    omega
  refine wpAny_call (PySem.W.kla_callFunE dpth of1 rfl L.co L.gen rfl ⟨c', oc, vs, tc, rfl, kp _ _ hoc, hdc, hvc⟩ ?_)
  rw [hb]
  refine wpAny_pure (wpAny_newFunctionEnv L.nocell (fun y hy => by rw [List.mem_singleton.mp hy]; exact L.row) (fun h₁ hns hsb => ⟨?_, ?_⟩) L.kind)
  · have lim : Heap.NoLimit g := I.nolimit.keeps kp
    exact lim.fresh _ hsb
  have kp1 : ∀ b o, g.get? b = some o → h₁.get? b = some o := fun b o e => hsb.extBut b o (Nat.ne_of_lt (Heap.lt_size e)) (Heap.get?_push_of_some _ e)
  have kp2 : ∀ b o, s.heap.get? b = some o → h₁.get? b = some o := fun b o e => kp1 _ _ (kp _ _ e)
  refine PySem.W.kla_codeExpr ?_
  obtain ⟨mb, b1, b2⟩ := I.mod.blt
  refine wpAny_Call_Name_kw (Calls.Name_function_global L.kind L.ab (Calls.loadGlobal_builtin (I.mod.glob.keeps fun b o e => kp2 _ _ (I.bk b o e)) hm (b1.keeps fun b o e => kp2 _ _ (I.bk b o e)) ((b2 "abs" (by decide)).trans (show bootBuiltins "abs" = some (.builtin "abs") by decide +kernel)) ?_) (by decide))
  refine PyProof.Rows.callWith_builtin1 ?_ rfl rfl
  refine Calls.spliced_cons (Subscript_ (wpAny_Name (wpAny_loadName_local (v := .ref a) L.kind L.row hns ?_ (wpAny_Name (wpAny_loadName_free (v := .int n t) L.kind L.place hclo ?_ ?_ dp2) dp)) dr))
  · show ([(r, Value.ref a)].reverse).lookup r = some (.ref a)
    simp
  · obtain ⟨o, ho, hd⟩ := hcell
    exact ⟨o, kp2 _ _ ho, hd⟩
  · refine subscriptTail_builtinR (x := .int z tz) (htp.keeps kp2).typeIs slot_tuple_getitem.lookup (getItem_tuple (j := j) (htp.keeps kp2) (by omega) (by omega) (by rw [List.size_toArray, ← hl]; exact h1) (by simpa using ew) ⟨rfl, Calls.spliced_nil ?_⟩) rfl
    refine call_abs_int fun u tk2 => ?_
    exact ⟨h₁, _, rfl, kp1, .int _ _⟩
end
/-- the row at an address, as it is told -/
def rowF (H : Hp) (a : Addr) : List Int := match H a with
  | some (.tup xs) => xs.map fun v => match v with
    | .int n => n
    | _ => 0
  | _ => []
theorem rowF_at {H : Hp} {a : Addr} {r : List Int} (h : H a = some (.tup (r.map V.int))) : rowF H a = r := by
  unfold rowF
  rw [h]
  simp [List.map_map, Function.comp_def]
def tSortKey (K : PySem.W.Frag) (T : List (Addr × Str)) (i : Nat) (te : TE) : TE := fun σ H Q => te σ H fun v H0 => ∃ (l : Addr) (as : List Addr) (row : Addr → List Int) (n : Nat), v = .ref l ∧ H0 l = some (.lst (as.map V.ref)) ∧ Tabs T H0 ∧ σ[i]? = some (some (.int (n : Int))) ∧
  (∀ a ∈ as, H0 a = some (.tup ((row a).map V.int)) ∧ n < (row a).length) ∧
  ∀ (H1 : Hp) (bs : List Addr) (p : Addr), ExtN H0 H1 → Tabs T H1 → bs.Perm as → bs.Pairwise (fun a b => absI ((row a).getD n 0) ≤ absI ((row b).getD n 0)) → H1 p = none → Q (.ref p) (upd H1 p (.lst (bs.map V.ref)))
theorem each_refs : ∀ as : List Addr, EachIs (fun (v : Value) (a : Addr) => v = .ref a) (as.map Value.ref) as
  | [] => .nil
  | a :: as => .cons rfl (each_refs as)
theorem refs_each : ∀ {vs : List Value} {as : List Addr}, EachIs (fun (v : Value) (a : Addr) => v = .ref a) vs as → vs = as.map Value.ref
  | _, _, .nil => rfl
  | _, _, .cons h t => by rw [List.map_cons, h, refs_each t]
theorem vals_of_refs : ∀ as : List Addr, Vals (as.map V.ref) (as.map Value.ref)
  | [] => .nil
  | a :: as => .cons rfl (vals_of_refs as)
theorem pe_sortKey {X : Cx} {T : List (Addr × Str)} {c P : Addr} {i : Nat} {r pl : Str} {ps : Arguments} {sc : Scope} {e : Expr} {te : TE} {p lp kp pos p1 p2 p3 p4 p5 : Pos}
    (hg : Gl X "sorted") (hs : X.mg "sorted" = none) (hm : X.mg "abs" = none) (he : PE X e te) (TB : TabB X.base X.mg c P) (hcode : X.env.code = .ref c) (hT : (P, X.env.qual ++ "<lambda>") ∈ T) (hu : ∀ p ∈ T, p.1 = P → p.2 = X.env.qual ++ "<lambda>")
    (L : LamK X.env.scope sc r pl) (hdef : defaultsOf ps X.env = ([], [])) (hN : X.N[i]? = some pl) (hr : Room 3 X.A)
    (hb : ∀ (q : Str) (cl : List (Str × Addr)) (pm cv ctv v : Value), bindArgs (PySem.W.kla_fn "<lambda>" q ps (.Call (.Name "abs" p1) [.Subscript (.Name r p2) (.Name pl p3) p4] [] p5) sc cl pm cv ctv) ⟨[v], []⟩ = pure [(r, v)])
    (hst : starEach [e] X.env = [(false, eval e X.env)] := by rfl)
    (dr : (r == ("__debug__" : Str)) = false := by decide) (dp : (pl == ("__debug__" : Str)) = false := by decide) (dp2 : (pl == ("__classdict__" : Str)) = false := by decide) :
    PE X (.Call (.Name "sorted" p) [e] [⟨some "key", .Lambda ps (.Call (.Name "abs" p1) [.Subscript (.Name r p2) (.Name pl p3) p4] [] p5) sc lp, kp⟩] pos) (tSortKey X.K T i te) := by
  refine ⟨fun pins s σ H Q I h => ?_⟩
  refine wpAny_Call_Name_kw (ld_blt I hg hs (show bootBuiltins "sorted" = some (.builtin "sorted") by decide +kernel) ?_ (by decide) (by decide))
  refine PyProof.Rows.callWith_kw ?_ (by rw [hst]; rfl) (by rw [hst]; rfl) rfl rfl
  rw [hst]
  show wpAny _ _ (spliced [(false, eval e X.env)]) _ _ s
  refine Calls.spliced_cons (thn (he.run pins s σ H _ I (show te σ H _ from h)) fun u s1 ⟨v, H0, I0, r0, q0⟩ => Calls.spliced_nil ?_)
  obtain ⟨l, as, row, n, rfl, hL, hTt, hσ, hrow, q⟩ := q0
  obtain rfl : u = Value.ref l := r0
  show wpAny _ _ (evalAll ((do let v ← eval (.Lambda ps (.Call (.Name "abs" p1) [.Subscript (.Name r p2) (.Name pl p3) p4] [] p5) sc lp) X.env; standAt pos; pure v) :: [])) _ _ s1
  have hfree : ∀ y ∈ sc.names, y.2 = .free → ∃ c, X.env.cells.lookup y.1 = some c := fun y hy e => by
    rw [L.only y hy e]
    exact I.ok.has _ (.inl L.out)
  refine wpAny_evalAll_cons (wpAny_bind (lam_make2 I0 TB hcode hT hu hTt hdef hfree fun f c' pm' ctv H1 s2 J eN T1 hf hfn hfr hco => wpAny_bind (wpAny_standAt (wpAny_pure (wpAny_evalAll_nil ?_)))))
  have hL1 : SqL X.K H1 l (as.map V.ref) := by
    exact SqL.of (eN _ _ hL (fun ps w => by cases w))
  have hrow1 : ∀ a ∈ as, H1 a = some (.tup ((row a).map V.int)) ∧ n < (row a).length := fun a ha => ⟨eN _ _ (hrow a ha).1 (fun ps w => by cases w), (hrow a ha).2⟩
  obtain ⟨its, rv, hl, hz⟩ := J.list hL1
  obtain ⟨e1, e2⟩ := refs_back rv fun x m => by
    obtain ⟨b, _, rfl⟩ := List.mem_map.mp m
    exact ⟨b, rfl⟩
  obtain rfl := vals_refs e2 e1
  have hz' : as.length ≤ sizeLine := by rw [List.length_map] at hz; exact hz
  have hun := hr.un
  show wpAny _ _ (call (.builtin "sorted") [.ref l] [(Str.ofString "key", .ref f)]) _ _ s2
  refine PySem.W.sorted_key_data (b := false) (R := fun (v : Value) (a : Addr) => v = .ref a) (bs := as) (fun a => .int (absI ((row a).getD n 0))) hl.isList (each_refs as) (PySem.W.AllAlike.of fun _ _ => by simp [PySem.W.alike]) (.inr fun d hd => ?_) hz' (fun a _ => ?_) (ksk_s1 _ _) (fun _ => ksk_l1 _ _) (fun _ => ksk_t1 _ _)
    (fun v a hv ha g tk kp => ?_) fun out cc h' tk kp fresh hD hlen eo => ?_
  · obtain ⟨a, _, rfl⟩ := List.mem_map.mp hd
    exact ⟨(fun z => by cases z), (fun xs z => by cases z)⟩
  · have hd : (PyData.int (absI ((row a).getD n 0))).depth = 0 := by simp [PyData.depth]
    rw [hd]
    omega
  · subst hv
    have hat : atI ((row a).map V.int) (n : Int) = some (.int ((row a).getD n 0)) := atI_nat (by
      rw [List.getElem?_map, List.getD_eq_getElem?_getD, List.getElem?_eq_getElem (hrow1 a ha).2]
      rfl)
    exact key_turn J L hf hco (fun v => hb _ _ _ _ _ v) hm hN hσ hr dr dp dp2 (hrow1 a ha).1 hat g tk kp
  · have eout := refs_each eo
    have hle : PySem.W.dataLe (β := Addr) false (fun a => .int (absI ((row a).getD n 0))) = fun a b => decide (absI ((row a).getD n 0) ≤ absI ((row b).getD n 0)) := PySem.W.dataLe_int (fun a => absI ((row a).getD n 0))
    rw [hle] at eout
    have tot : PySem.W.TotalLe (fun a b : Addr => decide (absI ((row a).getD n 0) ≤ absI ((row b).getD n 0))) := ⟨fun a b c h1 h2 => by
      have h1 := of_decide_eq_true h1
      have h2 := of_decide_eq_true h2
      exact decide_eq_true (Int.le_trans h1 h2), fun a b => by
      rcases Int.le_total (absI ((row a).getD n 0)) (absI ((row b).getD n 0)) with h | h
      · exact .inl (decide_eq_true h)
      · exact .inr (decide_eq_true h)⟩
    have srt := (PySem.W.sort_pairwise tot as).imp fun {a b} h => of_decide_eq_true h
    have prm := List.mergeSort_perm as fun a b : Addr => decide (absI ((row a).getD n 0) ≤ absI ((row b).getD n 0))
    generalize as.mergeSort (fun a b : Addr => decide (absI ((row a).getD n 0) ≤ absI ((row b).getD n 0))) = bs at eout srt prm
    refine ⟨.ref _, upd H1 (s2.heap.objs.size + 1) (.lst (bs.map V.ref)), J.laid (t' := tk) kp (Nat.le_succ _) ⟨?_, bs.map Value.ref, cc, vals_of_refs bs, ?_⟩, rfl, q H1 bs _ eN T1 prm srt (J.hok.fresh (Nat.le_succ _))⟩
    · rw [List.length_map, prm.length_eq]
      exact hz'
    · rw [eout] at hD
      exact hD
end HL

namespace HL
open PySem PySem.Spec PyProof.Rows L2
open PySem.W (EachIs)
/-! sorted of a list of objects that read as data (rows, lists of rows, pairs, texts), in any order; xs.remove(row) -/
theorem dq_ints {K : PySem.W.Frag} {H : Hp} : ∀ (r : List Int), DpAll K H (r.map V.int) (r.map .int)
  | [] => .nil
  | n :: r => .cons (.int n) (dq_ints r)
theorem dq_row {K : PySem.W.Frag} {H : Hp} {a : Addr} {r : List Int} (h : H a = some (.tup (r.map V.int))) : Dp K H (.ref a) (.tuple (r.map .int)) := .tup (SqT.of h) (dq_ints r)
theorem dq_each {K : PySem.W.Frag} {H : Hp} {β : Type} {f : β → V} {g : β → PyData} : ∀ {bs : List β}, (∀ b ∈ bs, Dp K H (f b) (g b)) → DpAll K H (bs.map f) (bs.map g)
  | [], _ => .nil
  | b :: bs, h => .cons (h b List.mem_cons_self) (dq_each fun c hc => h c (List.mem_cons_of_mem _ hc))
theorem vals_reads {X : Cx} {pins : List (Addr × Obj)} {σ : L2.St} {H : Hp} {s : Shared} (I : Inv X pins σ H s) {β : Type} {f : β → Addr} {g : β → PyData} : ∀ (bs : List β), (∀ b ∈ bs, Dp X.K H (.ref (f b)) (g b)) → EachIs (fun v b => ∃ as, Reads s.heap v (g b) as) (bs.map fun b => Value.ref (f b)) bs
  | [], _ => .nil
  | b :: bs, h => .cons (Dp.reads I _ _ _ (h b List.mem_cons_self) rfl) (vals_reads I bs fun c hc => h c (List.mem_cons_of_mem _ hc))
theorem each_refsF {β : Type} {f : β → Addr} : ∀ bs : List β, EachIs (fun (v : Value) (b : β) => v = .ref (f b)) (bs.map fun b => Value.ref (f b)) bs
  | [] => .nil
  | b :: bs => .cons rfl (each_refsF bs)
theorem refs_eachF {β : Type} {f : β → Addr} : ∀ {vs : List Value} {bs : List β}, EachIs (fun (v : Value) (b : β) => v = .ref (f b)) vs bs → vs = bs.map fun b => Value.ref (f b)
  | _, _, .nil => rfl
  | _, _, .cons h t => by rw [List.map_cons, h, refs_eachF t]
theorem vals_of_refsF {β : Type} {f : β → Addr} : ∀ bs : List β, Vals (bs.map fun b => V.ref (f b)) (bs.map fun b => Value.ref (f b))
  | [] => .nil
  | b :: bs => .cons rfl (vals_of_refsF bs)
def rSortedD (K : PySem.W.Frag) : List V → Hp → VK → Prop := fun vs H Q => ∃ (a : Addr) (as : List Addr) (dt : Addr → PyData), vs = [V.ref a] ∧ SqL K H a (as.map V.ref) ∧ (∀ b ∈ as, Dp K H (.ref b) (dt b)) ∧ PySem.W.AllAlike (as.map dt) ∧ PySem.W.Sortable (as.map dt) ∧ (∀ b ∈ as, (dt b).depth ≤ 4) ∧
  ∀ (cs : List Addr) (p : Addr), cs = as.mergeSort (PySem.W.dataLe false dt) → cs.Perm as → H p = none → Q (.ref p) (upd H p (.lst (cs.map V.ref)))
theorem cr_sortedD {X : Cx} {k : Nat} (hr : Room k X.A) : CallR X (.builtin "sorted") (rSortedD X.K) := by
  intro pins s σ H vs us Q I r h
  obtain ⟨a, as, dt, rfl, hs, hdt, hal, hso, hdp, q⟩ := h
  obtain ⟨its, rv, hl, hz⟩ := I.list hs
  obtain ⟨u, rfl, ru⟩ := vals1 r
  obtain rfl : u = Value.ref a := ru
  obtain ⟨e1, e2⟩ := refs_back rv fun x m => by
    obtain ⟨b, _, rfl⟩ := List.mem_map.mp m
    exact ⟨b, rfl⟩
  obtain rfl := vals_refs e2 e1
  have hun := hr.un
  refine PySem.W.sorted_data (R := fun (v : Value) (b : Addr) => v = .ref b) (bs := as) (enc := dt) hl.isList (each_refs as) (vals_reads I (f := id) as hdt) hal hso (by rw [List.length_map] at hz; exact hz) (fun b hb => ?_) fun out hlen eo => ?_
  · have := hdp b hb
    omega
  · have eout := refs_each eo
    subst eout
    have prm := List.mergeSort_perm as (PySem.W.dataLe false dt)
    obtain ⟨n, hn⟩ := sortedAll_at s.heap (as.map Value.ref) (List.toArray ((as.mergeSort (PySem.W.dataLe false dt)).map Value.ref))
    refine ⟨.ref _, upd H (s.heap.objs.size + 1) (.lst ((as.mergeSort (PySem.W.dataLe false dt)).map V.ref)), I.laid (t' := s.toks) (fun b o e => sortedAll_old e) (Nat.le_succ _) ⟨?_, _, n, vals_of_refs _, hn⟩, rfl, q _ _ rfl prm (I.hok.fresh (Nat.le_succ _))⟩
    rw [List.length_map, prm.length_eq]
    rw [List.length_map] at hz
    exact hz
/-! ### the order of data that are rows of whole numbers -/
theorem dataLt_row (xs ys : List Int) : PySem.W.dataLt (.tuple (xs.map .int)) (.tuple (ys.map .int)) = decide (xs < ys) := by
  rw [PySem.W.dataLt_tuple]
  exact PySem.W.dataLt_ints xs ys
theorem dq_eqvs : ∀ xs ys : List Int, PyData.eqvAll (xs.map .int) (ys.map .int) = decide (xs = ys)
  | [], [] => by simp [PyData.eqvAll]
  | [], _ :: _ => by simp [PyData.eqvAll]
  | _ :: _, [] => by simp [PyData.eqvAll]
  | x :: xs, y :: ys => by
    show PyData.eqvAll (.int x :: xs.map .int) (.int y :: ys.map .int) = _
    rw [PyData.eqvAll, dq_eqvs xs ys]
    by_cases h : x = y <;> by_cases g : xs = ys <;> simp [PyData.eqv, h, g]
theorem dq_eqv (xs ys : List Int) : PyData.eqv (.tuple (xs.map .int)) (.tuple (ys.map .int)) = decide (xs = ys) := by
  rw [PyData.eqv]
  exact dq_eqvs xs ys
theorem row_alike (xs ys : List Int) : PySem.W.alike (.tuple (xs.map .int)) (.tuple (ys.map .int)) = true := by
  rw [PySem.W.alike]
  exact PySem.W.alike_ints xs ys
theorem row_depth (xs : List Int) : (PyData.tuple (xs.map .int)).depth = 1 := by
  rw [PyData.depth, PySem.W.depth_ints]
/-- rows, the less or alike first -/
theorem dataLe_row {β : Type} (x : β → List Int) : PySem.W.dataLe false (fun b => .tuple ((x b).map .int)) = fun p q => decide (¬ x q < x p) := by
  funext p q
  show (!PySem.W.dataLt (.tuple ((x q).map .int)) (.tuple ((x p).map .int))) = _
  rw [dataLt_row]
  by_cases h : x q < x p <;> simp [h]
theorem lt_irr (x : List Int) : ¬ x < x := List.lt_irrefl x
theorem lt_tr {x y z : List Int} (h : x < y) (g : y < z) : x < z := List.lt_trans h g
theorem lt_tot (x y : List Int) : x < y ∨ x = y ∨ y < x := by
  by_cases h : x < y
  · exact .inl h
  · by_cases g : y < x
    · exact .inr (.inr g)
    · exact .inr (.inl (List.le_antisymm g h))
/-- lists of rows, none empty: by their first rows where these differ -/
theorem dataLt_heads {x y : List Int} (h : x ≠ y) (xs ys : List (List Int)) : PySem.W.dataLt (.list ((x :: xs).map fun r => .tuple (r.map .int))) (.list ((y :: ys).map fun r => .tuple (r.map .int))) = decide (x < y) := by
  rw [PySem.W.dataLt_list]
  show PyProof.Rows.lexLt itemOrd (PySem.W.keyToksAll (.tuple (x.map .int) :: xs.map fun r => .tuple (r.map .int))) (PySem.W.keyToksAll (.tuple (y.map .int) :: ys.map fun r => .tuple (r.map .int))) = _
  rw [PySem.W.dataLt_cons (row_alike x y), dq_eqv, decide_eq_false h, if_neg Bool.false_ne_true, dataLt_row]
/-! ### xs.remove(row) -/
def rRemD (K : PySem.W.Frag) : V → List V → Hp → VK → Prop := fun x xs H Q => ∃ (l b : Addr) (as : List Addr) (rw : Addr → List Int) (j : Nat), x = .ref l ∧ xs = [.ref b] ∧ H l = some (.lst (as.map V.ref)) ∧ (∀ a ∈ as, H a = some (.tup ((rw a).map V.int))) ∧ H b = some (.tup ((rw b).map V.int)) ∧
  (as.map rw).findIdx? (fun r => decide (r = rw b)) = some j ∧ Q .non (upd H l (.lst ((as.eraseIdx j).map V.ref)))
theorem dq_plains : ∀ r : List Int, PyData.plainAll (r.map .int) = true
  | [] => by simp [PyData.plainAll]
  | n :: r => by
    show PyData.plainAll (.int n :: r.map .int) = true
    rw [PyData.plainAll, dq_plains r]
    simp [PyData.plain]
theorem dq_plain (r : List Int) : PyData.plain (.tuple (r.map .int)) = true := by rw [PyData.plain]; exact dq_plains r
theorem dq_plainr {β : Type} (f : β → List Int) : ∀ as : List β, PyData.plainAll (as.map fun a => .tuple ((f a).map .int)) = true
  | [] => by simp [PyData.plainAll]
  | a :: as => by
    show PyData.plainAll (.tuple ((f a).map .int) :: as.map fun a => .tuple ((f a).map .int)) = true
    rw [PyData.plainAll, dq_plainr f as, dq_plain]
    rfl
theorem dq_erase {α β : Type} (f : α → β) : ∀ (l : List α) (j : Nat), (l.map f).eraseIdx j = (l.eraseIdx j).map f
  | [], _ => rfl
  | _ :: _, 0 => rfl
  | x :: l, j + 1 => by
    show f x :: (l.map f).eraseIdx j = f x :: (l.eraseIdx j).map f
    rw [dq_erase f l j]
theorem mt_removeD {X : Cx} {k : Nat} (hr : Room k X.A) : MtM X "list.remove" (rRemD X.K) := by
  intro pins s σ H x xs v us Q I rx rxs h
  obtain ⟨l, b, as, rw', j, rfl, rfl, hH, hat, hb, hj, q⟩ := h
  cases rx
  obtain ⟨u, rfl, ru⟩ := rxs.one
  obtain rfl : u = Value.ref b := ru
  obtain ⟨z, its, n, r, hl, e⟩ := I.lstM hH
  have hun := hr.un
  obtain ⟨bs, rs⟩ := Dp.readsAll I (as.map fun a => .tuple ((rw' a).map .int)) _ its (dq_each fun a ha => dq_row (hat a ha)) r
  obtain ⟨ds, rb⟩ := Dp.reads I (.tuple ((rw' b).map .int)) _ (.ref b) (dq_row hb) rfl
  have hp : PySem.SeqAt.dataPlace (as.map fun a => .tuple ((rw' a).map .int)) (.tuple ((rw' b).map .int)) = some j := by
    unfold PySem.SeqAt.dataPlace
    rw [List.findIdx?_map] at hj ⊢
    rw [← hj]
    congr 1
    funext a
    exact dq_eqv _ _
  have hd := row_depth (rw' b)
  refine PySem.SeqAt.remove_list_data (j := j) (vs := its.toArray) (xs := as.map fun a => .tuple ((rw' a).map .int)) ⟨_, e, rfl, n, rfl⟩ (by rw [List.toList_toArray]; exact rs) rb (dq_plainr rw' as) (dq_plain _) (by omega) hp (by rw [List.size_toArray, ← r.length]; exact z) ?_
  have rr := r.eraseIdx j
  have em : (as.map V.ref).eraseIdx j = (as.eraseIdx j).map V.ref := dq_erase _ _ _
  rw [em] at rr
  refine ⟨.non, _, I.lset (its' := its.eraseIdx j) (t' := s.toks) hH e ?_ rr ?_, rfl, q⟩
  · show its.toArray.eraseIdxIfInBounds j = (its.eraseIdx j).toArray
    rw [List.eraseIdxIfInBounds_toArray]
  · rw [List.length_map, List.length_eraseIdx]
    rw [List.length_map] at z
    split <;> omega
end HL

namespace HL
open PySem PySem.Spec PyProof.Rows L2
/-! zip of three tuples of one length, by the library's zip over iterators of any kind -/
def Itz3 (K : PySem.W.Frag) (a b c : Addr) : It :=
  ⟨fun n H => ∃ us vs ws u v w, (SqT K H a us ∧ us[n]? = some u) ∧ (SqT K H b vs ∧ vs[n]? = some v) ∧ SqT K H c ws ∧ ws[n]? = some w,
    fun n H x H' => ∃ T u v w, x = .ref T ∧ H T = none ∧ H' = upd H T (.tup [u, v, w]) ∧ (∀ us, SqT K H a us → us[n]? = some u) ∧ (∀ vs, SqT K H b vs → vs[n]? = some v) ∧ ∀ ws, SqT K H c ws → ws[n]? = some w,
    fun n H => ∃ us vs ws : List V, SqT K H a us ∧ SqT K H b vs ∧ SqT K H c ws ∧ us.length = vs.length ∧ us.length = ws.length ∧ n = us.length⟩
abbrev stZ3 (z TI TO j k l a b c : Addr) (n : Nat) (h : Heap) : Prop := IsZip h z TI TO .none ∧ IsTupOf3 h TI (.ref j) (.ref k) (.ref l) ∧ (∃ u v w, IsTupOf3 h TO u v w) ∧ h.IsTupleIter j a n ∧ h.IsTupleIter k b n ∧ h.IsTupleIter l c n
theorem turn_zip3 {P : Program} {w : World} {K : PySem.W.Frag} {elts : List Expr} {kk : Nat} {tp : Pos} {a b c z TI TO j k l : Addr} (D : ZipSep3 z TI TO j k l [j, a] [k, b] [l, c]) (na : a ≠ j) (nb : b ≠ k) (nc : c ≠ l) : Turn P w K (.Tuple elts kk tp) (Itz3 K a b c) [z, TI, TO, j, k, l] z (stZ3 z TI TO j k l a b c) where
  mem := List.mem_cons_self
  obj := by
    rintro n h ⟨s1, s2, ⟨u, v, w', s3⟩, ⟨o4, e4, _, d4⟩, ⟨o5, e5, _, d5⟩, ⟨o6, e6, _, d6⟩⟩ x hx
    simp only [List.mem_cons, List.mem_nil_iff, or_false] at hx
    rcases hx with rfl | rfl | rfl | rfl | rfl | rfl
    · exact ⟨_, s1, fun v q => nomatch q⟩
    · exact ⟨_, s2, fun v q => nomatch q⟩
    · exact ⟨_, s3, fun v q => nomatch q⟩
    · exact ⟨o4, e4, fun v q => by rw [d4] at q; cases q⟩
    · exact ⟨o5, e5, fun v q => by rw [d5] at q; cases q⟩
    · exact ⟨o6, e6, fun v q => by rw [d6] at q; cases q⟩
  keep := by
    rintro n h h' ⟨s1, s2, ⟨u, v, w', s3⟩, s4, s5, s6⟩ kp
    exact ⟨kp _ (by simp) _ s1, kp _ (by simp) _ s2, ⟨u, v, w', kp _ (by simp) _ s3⟩, s4.at fun o q => kp _ (by simp) o q, s5.at fun o q => kp _ (by simp) o q, s6.at fun o q => kp _ (by simp) o q⟩
  item := by
    intro X hP hw hK hc n pins s σ H E I hf st hg
    subst hP hw hK
    obtain ⟨s1, s2, ⟨u0, v0, w0, s3⟩, s4, s5, s6⟩ := st
    obtain ⟨us, vs, ws, u, v, w', ⟨qa, hu⟩, ⟨qb, hv⟩, qc, hw'⟩ := hg
    obtain ⟨la, va, ta, _⟩ := I.tuple qa
    obtain ⟨lb, vb, tb, _⟩ := I.tuple qb
    obtain ⟨lc, vc, tc, _⟩ := I.tuple qc
    obtain ⟨x1, gx1, r1⟩ := va.get hu
    obtain ⟨x2, gx2, r2⟩ := vb.get hv
    obtain ⟨x3, gx3, r3⟩ := vc.get hw'
    have lt1 : n < la.toArray.size := by rw [List.size_toArray]; exact (List.getElem?_eq_some_iff.mp gx1).1
    have lt2 : n < lb.toArray.size := by rw [List.size_toArray]; exact (List.getElem?_eq_some_iff.mp gx2).1
    have lt3 : n < lc.toArray.size := by rw [List.size_toArray]; exact (List.getElem?_eq_some_iff.mp gx3).1
    have hh : X.A.in1.handled = none := I.ok.hd hc
    have zl : z < s.heap.objs.size := Heap.lt_size s1
    refine wpAny_pyNext_zipD3_item D (Draws.tuple hh j a na la.toArray) (Draws.tuple hh k b nb lb.toArray) (Draws.tuple hh l c nc lc.toArray) s1 s2 s3 ⟨s4, ta⟩ ⟨s5, tb⟩ ⟨s6, tc⟩ lt1 lt2 lt3 fun y1 y2 y3 h' tk g1 g2 g3 z1 z3 t1 t2 t3 hT hsz hk => ?_
    have ey1 : y1 = x1 := by
      have g1' : la[n]? = some y1 := by simpa using g1
      exact Option.some.inj (g1'.symm.trans gx1)
    have ey2 : y2 = x2 := by
      have g2' : lb[n]? = some y2 := by simpa using g2
      exact Option.some.inj (g2'.symm.trans gx2)
    have ey3 : y3 = x3 := by
      have g3' : lc[n]? = some y3 := by simpa using g3
      exact Option.some.inj (g3'.symm.trans gx3)
    subst ey1 ey2 ey3
    refine ⟨_, rfl, wpAny_letOwnedTupleGo_zip (s := { s with heap := h', toks := tk }) z1 fun h2 zz sb => ?_⟩
    have T2 : h2.get? s.heap.objs.size = some { cls := .type "tuple", data := .seq #[y1, y2, y3] } := (sb.2 _ (Nat.ne_of_gt zl)).trans hT
    have I1 := I.turnedNew (ob := .tup [u, v, w']) (t' := tk) (ch := [z, TI, TO, j, k, l]) (h' := h2) (fun c o hb q => by
      simp only [List.mem_cons, List.mem_nil_iff, or_false, not_or] at hb
      exact (sb.2 c hb.1).trans (hk c o hb.1 hb.2.2.1 hb.2.2.2.1 hb.2.2.2.2.1 hb.2.2.2.2.2 q)) hf (Nat.le_refl _) ⟨by show 3 ≤ sizeLine; decide, [y1, y2, y3], .cons r1 (.cons r2 (.cons r3 .nil)), ⟨_, T2, rfl, _, rfl⟩⟩
    have up : ∀ {c : Addr} {o : Obj}, c ≠ z → h'.get? c = some o → h2.get? c = some o := fun n q => (sb.2 _ n).trans q
    refine ⟨.ref s.heap.objs.size, _, I1, rfl, ⟨_, u, v, w', rfl, I.hok.fresh (Nat.le_refl _), rfl, fun l q => by rw [I.tuple_inj q qa]; exact hu, fun l q => by rw [I.tuple_inj q qb]; exact hv, fun l q => by rw [I.tuple_inj q qc]; exact hw'⟩,
      ⟨zz, up D.TIz (hk _ _ D.TIz D.TITO D.TIi1 D.TIi2 D.TIi3 s2), ⟨y1, y2, y3, up D.TOz z3⟩, t1.1.at fun o q => up D.zi1.symm q, t2.1.at fun o q => up D.zi2.symm q, t3.1.at fun o q => up D.zi3.symm q⟩, fun c hcm => ?_⟩
    have clt : c < s.heap.objs.size := by
      have hcm' := hcm
      simp only [List.mem_cons, List.mem_nil_iff, or_false] at hcm'
      rcases hcm' with rfl | rfl | rfl | rfl | rfl | rfl
      · exact zl
      · exact Heap.lt_size s2
      · exact Heap.lt_size s3
      · obtain ⟨_, e, _⟩ := s4; exact Heap.lt_size e
      · obtain ⟨_, e, _⟩ := s5; exact Heap.lt_size e
      · obtain ⟨_, e, _⟩ := s6; exact Heap.lt_size e
    rw [upd_ne (Nat.ne_of_lt clt)]
    exact (hf c hcm).1
  done := by
    intro X hP hw hK hc n pins s σ H E I hf st hg
    subst hP hw hK
    obtain ⟨s1, s2, ⟨u0, v0, w0, s3⟩, s4, s5, s6⟩ := st
    obtain ⟨us, vs, ws, qa, qb, qc, el, el2, en⟩ := hg
    obtain ⟨la, va, ta, _⟩ := I.tuple qa
    obtain ⟨lb, vb, tb, _⟩ := I.tuple qb
    obtain ⟨lc, vc, tc, _⟩ := I.tuple qc
    have l1 := va.length
    have l2 := vb.length
    have l3 := vc.length
    have hh : X.A.in1.handled = none := I.ok.hd hc
    refine wpAny_pyNext_zipD3_end D (Draws.tuple hh j a na la.toArray) (Draws.tuple hh k b nb lb.toArray) (Draws.tuple hh l c nc lc.toArray) s1 s2 s3 ⟨s4, ta⟩ ⟨s5, tb⟩ ⟨s6, tc⟩ (by rw [List.size_toArray]; omega) (by rw [List.size_toArray]; omega) (by rw [List.size_toArray]; omega) (.inl (by rw [List.size_toArray]; omega)) fun h' tk hk => ?_
    exact ⟨rfl, I.turnedL (t' := tk) (ch := [z, TI, TO, j, k, l]) (fun c o hb q => by
      simp only [List.mem_cons, List.mem_nil_iff, or_false, not_or] at hb
      exact hk c o hb.1 hb.2.2.1 hb.2.2.2.1 hb.2.2.2.2.1 hb.2.2.2.2.2 q) hf⟩
  self := fun A n s Q E st h => wpAny_pyIter_zip st.1 h
def iZip3 (K : PySem.W.Frag) (ta : TA) : TI := fun σ H R => ta σ H fun vs H1 => ∃ a b c xs ys zs, vs = [.ref a, .ref b, .ref c] ∧ SqT K H1 a xs ∧ SqT K H1 b ys ∧ SqT K H1 c zs ∧ R (Itz3 K a b c) H1
theorem pi_zip3 {X : Cx} {e e2 e3 : Expr} {ta : TA} {p pos tp : Pos} {elts : List Expr} {kk : Nat} (hg : Gl X "zip") (hm : X.mg "zip" = none) (ha : PA X [e, e2, e3] ta)
    (hs : starEach [e, e2, e3] X.env = (false, eval e X.env) :: starEach [e2, e3] X.env := by rfl) (hpl : (backTo pos (starEach [e2, e3] X.env)).any (·.1) = false := by rfl) : PI X (.Tuple elts kk tp) (.Call (.Name "zip" p) [e, e2, e3] [] pos) (iZip3 X.K ta) := by
  refine ⟨fun pins s σ H R I h => Call_ (ld_blt I hg hm PyProof.Rows.boot_zip (PyProof.Rows.callWith_type1 (thn (ha.run pos pins s σ H _ I h) ?_) hs hpl))⟩
  rintro us s1 ⟨vs, H1, I1, r1, a, b, c, xs, ys, zs, rfl, qa, qb, qc, q⟩
  cases r1 with
  | cons e1 r1 =>
  cases r1 with
  | cons e2 r1 =>
  cases r1 with
  | cons e3 r1 =>
  cases r1
  cases e1
  cases e2
  cases e3
  have fr : ∀ c, c ∈ [s1.heap.objs.size + 5, s1.heap.objs.size + 3, s1.heap.objs.size + 4, s1.heap.objs.size, s1.heap.objs.size + 1, s1.heap.objs.size + 2] → FpOk X pins H1 c := fun c m => by
    have le : s1.heap.objs.size ≤ c := by
      simp only [List.mem_cons, List.mem_nil_iff, or_false] at m
      omega
    exact I1.fpOk le (I1.hok.fresh le)
  obtain ⟨la, va, ta', _⟩ := I1.tuple qa
  obtain ⟨lb, vb, tb, _⟩ := I1.tuple qb
  obtain ⟨lc, vc, tc, _⟩ := I1.tuple qc
  obtain ⟨oa, hoa, _⟩ := id ta'
  obtain ⟨ob, hob, _⟩ := id tb
  obtain ⟨oc, hoc, _⟩ := id tc
  have a1 : a < s1.heap.objs.size := Heap.lt_size hoa
  have b1 : b < s1.heap.objs.size := Heap.lt_size hob
  have c1 : c < s1.heap.objs.size := Heap.lt_size hoc
  refine zip_begins3 (begins_tuple a la.toArray) (begins_tuple b lb.toArray) (begins_tuple c lc.toArray) ta' tb tc fun h' z1 z2 z3 z4 z5 z6 hsz hk => wpAny_pyIter_zip z1 ?_
  have S := zip_sep3 (N := s1.heap.objs.size) (fp1 := [a]) (fp2 := [b]) (fp3 := [c]) (fun x m => by rw [List.mem_singleton.mp m]; exact a1) (fun x m => by rw [List.mem_singleton.mp m]; exact b1) (fun x m => by rw [List.mem_singleton.mp m]; exact c1)
  exact ⟨s1.heap.objs.size + 5, _, _, _, H1, rfl, I1.kept (t' := s1.toks) hk, turn_zip3 S (Nat.ne_of_lt a1) (Nat.ne_of_lt (Nat.lt_succ_of_lt b1)) (Nat.ne_of_lt (Nat.lt_succ_of_lt (Nat.lt_succ_of_lt c1))), ⟨z1, z2, ⟨_, _, _, z3⟩, ⟨_, z4, rfl, rfl⟩, ⟨_, z5, rfl, rfl⟩, ⟨_, z6, rfl, rfl⟩⟩, fr, q⟩
end HL

namespace HL
/-! ### rows, and how many ways there are to make one of rows -/
/-- b less h, taken k times -/
def subR (b h : List Int) (k : Int) : List Int := (b.zip h).map fun q => q.1 - k * q.2
def zeroB (b : List Int) : Bool := b.all fun z => decide (z = 0)
def nnB (b : List Int) : Bool := b.all fun z => decide (0 ≤ z)
def cnt : List (List Int) → List Int → Nat
  | [], b => if zeroB b = true then 1 else 0
  | h :: t, b => ((List.range (b.sum.toNat + 1)).map fun (k : Nat) => cnt t (subR b h (k : Int))).sum
/-- a kind: as wide as told, nothing below 0, something above it -/
def Kd (g : Nat) (h : List Int) : Prop := h.length = g ∧ (∀ n ∈ h, 0 ≤ n) ∧ ∃ n ∈ h, 0 < n
theorem sum_zeroN : ∀ {l : List Nat}, (∀ x ∈ l, x = 0) → l.sum = 0
  | [], _ => rfl
  | x :: l, h => by rw [List.sum_cons, h x List.mem_cons_self, sum_zeroN fun y hy => h y (List.mem_cons_of_mem _ hy)]
theorem nnB_iff {b : List Int} : nnB b = true ↔ ∀ n ∈ b, 0 ≤ n := by
  unfold nnB
  rw [List.all_eq_true]
  exact ⟨fun h n hn => of_decide_eq_true (h n hn), fun h n hn => decide_eq_true (h n hn)⟩
theorem zeroB_iff {b : List Int} : zeroB b = true ↔ ∀ n ∈ b, n = 0 := by
  unfold zeroB
  rw [List.all_eq_true]
  exact ⟨fun h n hn => of_decide_eq_true (h n hn), fun h n hn => decide_eq_true (h n hn)⟩
theorem subR_len {b h : List Int} {k : Int} (e : b.length = h.length) : (subR b h k).length = b.length := by
  unfold subR
  rw [List.length_map, List.length_zip]
  omega
theorem subR_cons {x y : Int} {b h : List Int} {k : Int} : subR (x :: b) (y :: h) k = (x - k * y) :: subR b h k := rfl
theorem subR_zero : ∀ {b h : List Int}, b.length = h.length → subR b h 0 = b
  | [], [], _ => rfl
  | x :: b, y :: h, e => by
    rw [subR_cons, subR_zero (by simpa using e), Int.zero_mul, Int.sub_zero]
  | [], _ :: _, e => by simp at e
  | _ :: _, [], e => by simp at e
theorem subR_add : ∀ {b h : List Int} {j k : Int}, subR (subR b h j) h k = subR b h (j + k)
  | [], _, _, _ => rfl
  | _ :: _, [], _, _ => rfl
  | x :: b, y :: h, j, k => by
    rw [subR_cons, subR_cons, subR_cons, subR_add, Int.add_mul]
    congr 1
    omega
theorem subR_comm : ∀ {b h g : List Int} {j k : Int}, subR (subR b h j) g k = subR (subR b g k) h j
  | [], _, _, _, _ => by simp [subR]
  | _ :: _, [], g, _, _ => by cases g <;> simp [subR]
  | _ :: _, _ :: _, [], _, _ => by simp [subR]
  | x :: b, y :: h, z :: g, j, k => by
    rw [subR_cons, subR_cons, subR_cons, subR_cons, subR_comm]
    congr 1
    omega
theorem subR_sum : ∀ {b h : List Int} {k : Int}, b.length = h.length → (subR b h k).sum = b.sum - k * h.sum
  | [], [], k, _ => by simp [subR]
  | x :: b, y :: h, k, e => by
    rw [subR_cons, List.sum_cons, List.sum_cons, List.sum_cons, subR_sum (by simpa using e), Int.mul_add]
    omega
  | [], _ :: _, _, e => by simp at e
  | _ :: _, [], _, e => by simp at e
theorem sum_nn : ∀ {b : List Int}, (∀ n ∈ b, 0 ≤ n) → 0 ≤ b.sum
  | [], _ => Int.le_refl _
  | x :: b, h => by
    rw [List.sum_cons]
    have := h x List.mem_cons_self
    have := sum_nn fun n hn => h n (List.mem_cons_of_mem _ hn)
    omega
theorem sum_kd {g : Nat} {h : List Int} (k : Kd g h) : 1 ≤ h.sum := by
  have k2 := k.2.1
  obtain ⟨n, hn, hp⟩ := k.2.2
  clear k
  induction h with
  | nil => cases hn
  | cons x h ih =>
    rw [List.sum_cons]
    have x0 := k2 x List.mem_cons_self
    have r0 := sum_nn fun n hn => k2 n (List.mem_cons_of_mem _ hn)
    rcases List.mem_cons.mp hn with e | e
    · omega
    · have := ih (fun n hn => k2 n (List.mem_cons_of_mem _ hn)) e
      omega
/-- what is below 0 somewhere stays so -/
theorem sub_neg : ∀ {b h : List Int} {k : Int}, b.length = h.length → (∀ n ∈ h, 0 ≤ n) → 0 ≤ k → nnB b = false → nnB (subR b h k) = false
  | [], [], _, _, _, _, e => by cases e
  | x :: b, y :: h, k, el, hn, hk, e => by
    unfold nnB at e ⊢
    rw [subR_cons, List.all_cons]
    rw [List.all_cons] at e
    have y0 := hn y List.mem_cons_self
    by_cases c : 0 ≤ x
    · rw [decide_eq_true c, Bool.true_and] at e
      have := sub_neg (b := b) (h := h) (k := k) (by simpa using el) (fun n hn' => hn n (List.mem_cons_of_mem _ hn')) hk e
      unfold nnB at this
      rw [this, Bool.and_false]
    · have : ¬ 0 ≤ x - k * y := by
        have := Int.mul_nonneg hk y0
        omega
      rw [decide_eq_false this, Bool.false_and]
  | [], _ :: _, _, e, _, _, _ => by simp at e
  | _ :: _, [], _, e, _, _, _ => by simp at e
theorem cnt_neg {g : Nat} : ∀ {l : List (List Int)} {b : List Int}, (∀ h ∈ l, Kd g h) → b.length = g → nnB b = false → cnt l b = 0
  | [], b, _, _, e => by
    unfold cnt
    rw [if_neg fun z => ?_]
    have : nnB b = true := nnB_iff.mpr fun n hn => by rw [zeroB_iff.mp z n hn]; exact Int.le_refl _
    rw [this] at e
    cases e
  | h :: t, b, hl, hb, e => by
    unfold cnt
    have kh := hl h List.mem_cons_self
    refine sum_zeroN fun x hx => ?_
    obtain ⟨k, _, rfl⟩ := List.mem_map.mp hx
    have eb : b.length = h.length := by rw [hb, kh.1]
    exact cnt_neg (fun h' hh => hl h' (List.mem_cons_of_mem _ hh)) (by rw [subR_len eb, hb]) (sub_neg eb kh.2.1 (by omega) e)
theorem sum_range_zero (f : Nat → Nat) {m : Nat} : ∀ {n : Nat}, (∀ k, m ≤ k → f k = 0) → m ≤ n → ((List.range n).map f).sum = ((List.range m).map f).sum
  | 0, _, h => by rw [Nat.le_zero.mp h]
  | n + 1, hf, h => by
    by_cases c : m = n + 1
    · rw [c]
    · rw [List.range_succ, List.map_append, List.sum_append, sum_range_zero f hf (by omega)]
      simp [hf n (by omega)]
theorem sub_far {g : Nat} {b h : List Int} {k : Nat} (kh : Kd g h) (hb : b.length = g) (hk : b.sum.toNat < k) : nnB (subR b h (k : Int)) = false := by
  have eb : b.length = h.length := by rw [hb, kh.1]
  cases e : nnB (subR b h (k : Int)) with
  | false => rfl
  | true =>
    have h0 := sum_nn (nnB_iff.mp e)
    rw [subR_sum eb] at h0
    have h1 := sum_kd kh
    have : (k : Int) * 1 ≤ (k : Int) * h.sum := Int.mul_le_mul_of_nonneg_left h1 (by omega)
    omega
/-- any number of turns that is great enough -/
theorem cnt_to {g : Nat} {h : List Int} {t : List (List Int)} {b : List Int} {m : Nat} (hl : ∀ x ∈ h :: t, Kd g x) (hb : b.length = g) (hm : b.sum.toNat + 1 ≤ m) : cnt (h :: t) b = ((List.range m).map fun (k : Nat) => cnt t (subR b h (k : Int))).sum := by
  have kh := hl h List.mem_cons_self
  have eb : b.length = h.length := by rw [hb, kh.1]
  rw [show cnt (h :: t) b = ((List.range (b.sum.toNat + 1)).map fun (k : Nat) => cnt t (subR b h (k : Int))).sum from rfl]
  exact (sum_range_zero _ (fun k hk => cnt_neg (fun x hx => hl x (List.mem_cons_of_mem _ hx)) (by rw [subR_len eb, hb]) (sub_far kh hb (by omega))) hm).symm
theorem sum_range_shift (f : Nat → Nat) (n : Nat) : ((List.range (n + 1)).map f).sum = f 0 + ((List.range n).map fun k => f (k + 1)).sum := by
  rw [List.range_succ_eq_map, List.map_cons, List.sum_cons, List.map_map]
  rfl
theorem sub_sum_le {g : Nat} {b h : List Int} (kh : Kd g h) (hb : b.length = g) : (subR b h 1).sum.toNat + 1 ≤ b.sum.toNat + 1 := by
  have eb : b.length = h.length := by rw [hb, kh.1]
  rw [subR_sum eb]
  have := sum_kd kh
  omega
/-- the table's own row: without the kind, and with one hamper of it taken out -/
theorem cnt_step {g : Nat} {h : List Int} {t : List (List Int)} {b : List Int} (hl : ∀ x ∈ h :: t, Kd g x) (hb : b.length = g) : cnt (h :: t) b = cnt t b + cnt (h :: t) (subR b h 1) := by
  have kh := hl h List.mem_cons_self
  have eb : b.length = h.length := by rw [hb, kh.1]
  rw [cnt_to hl hb (m := b.sum.toNat + 1 + 1) (by omega), sum_range_shift, show ((0 : Nat) : Int) = 0 from rfl, subR_zero eb, cnt_to hl (by rw [subR_len eb, hb]) (sub_sum_le kh hb)]
  congr 2
  refine List.map_congr_left fun k _ => ?_
  rw [subR_add]
  congr 2
  omega
theorem sum_map_add (f g : Nat → Nat) : ∀ l : List Nat, (l.map fun k => f k + g k).sum = (l.map f).sum + (l.map g).sum
  | [] => rfl
  | x :: l => by
    rw [List.map_cons, List.map_cons, List.map_cons, List.sum_cons, List.sum_cons, List.sum_cons, sum_map_add f g l]
    omega
/-- the same of any kind of the lot -/
theorem cnt_cut {g : Nat} : ∀ {l : List (List Int)} {b : List Int} {i : Nat} {h : List Int}, (∀ x ∈ l, Kd g x) → b.length = g → l[i]? = some h → cnt l b = cnt (l.take i ++ l.drop (i + 1)) b + cnt l (subR b h 1)
  | [], _, _, _, _, _, e => by simp at e
  | x :: l, b, 0, h, hl, hb, e => by
    cases Option.some.inj e
    exact cnt_step hl hb
  | x :: l, b, i + 1, h, hl, hb, e => by
    have e' : l[i]? = some h := e
    have kx := hl x List.mem_cons_self
    have kh : Kd g h := hl h (List.mem_cons_of_mem _ (List.mem_of_getElem? e'))
    have ebx : b.length = x.length := by rw [hb, kx.1]
    have ebh : b.length = h.length := by rw [hb, kh.1]
    have hl' : ∀ y ∈ l, Kd g y := fun y hy => hl y (List.mem_cons_of_mem _ hy)
    have hlc : ∀ y ∈ x :: (l.take i ++ l.drop (i + 1)), Kd g y := fun y hy => by
      rcases List.mem_cons.mp hy with h | h
      · rw [h]; exact kx
      · rcases List.mem_append.mp h with h | h
        · exact hl' y (List.mem_of_mem_take h)
        · exact hl' y (List.mem_of_mem_drop h)
    show cnt (x :: l) b = cnt (x :: (l.take i ++ l.drop (i + 1))) b + cnt (x :: l) (subR b h 1)
    rw [cnt_to hl hb (Nat.le_refl _), cnt_to hlc hb (Nat.le_refl _), cnt_to hl (by rw [subR_len ebh, hb]) (sub_sum_le kh hb), ← sum_map_add]
    congr 1
    refine List.map_congr_left fun k _ => ?_
    have := cnt_cut hl' (b := subR b x (k : Int)) (by rw [subR_len ebx, hb]) e'
    rw [this, subR_comm]
/-- nothing of no goods -/
theorem cnt_nought {g : Nat} : ∀ {l : List (List Int)} {b : List Int}, (∀ x ∈ l, Kd g x) → b.length = g → zeroB b = true → cnt l b = 1
  | [], b, _, _, e => by
    unfold cnt
    rw [if_pos e]
  | h :: t, b, hl, hb, e => by
    have kh := hl h List.mem_cons_self
    have eb : b.length = h.length := by rw [hb, kh.1]
    have es : b.sum = 0 := by
      clear hb eb hl
      induction b with
      | nil => rfl
      | cons x b ih =>
        rw [List.sum_cons, zeroB_iff.mp e x List.mem_cons_self, ih (zeroB_iff.mpr fun n hn => zeroB_iff.mp e n (List.mem_cons_of_mem _ hn))]
        rfl
    rw [cnt_step hl hb, cnt_nought (fun x hx => hl x (List.mem_cons_of_mem _ hx)) hb e, cnt_neg (l := h :: t) hl (by rw [subR_len eb, hb])]
    have := sub_far (k := 1) kh hb (by rw [es]; decide)
    exact this
/-- where something is made of something, some kind goes in -/
theorem cnt_some {g : Nat} {b : List Int} (hb : b.length = g) (hz : zeroB b = false) : ∀ {l : List (List Int)}, (∀ x ∈ l, Kd g x) → (∀ h ∈ l, nnB (subR b h 1) = false) → cnt l b = 0
  | [], _, _ => by
    unfold cnt
    rw [hz]
    rfl
  | h :: t, hl, hn => by
    have kh := hl h List.mem_cons_self
    have eb : b.length = h.length := by rw [hb, kh.1]
    rw [cnt_step hl hb, cnt_some hb hz (fun x hx => hl x (List.mem_cons_of_mem _ hx)) (fun x hx => hn x (List.mem_cons_of_mem _ hx)), cnt_neg (l := h :: t) hl (by rw [subR_len eb, hb]) (hn h List.mem_cons_self)]
/-- the last kind first -/
theorem cnt_last {g : Nat} {h : List Int} (kh : Kd g h) : ∀ {l : List (List Int)} {b : List Int} {m : Nat}, (∀ x ∈ l, Kd g x) → b.length = g → b.sum.toNat + 1 ≤ m → cnt (l ++ [h]) b = ((List.range m).map fun (k : Nat) => cnt l (subR b h (k : Int))).sum
  | [], b, m, _, hb, hm => cnt_to (fun x hx => by rw [List.mem_singleton.mp hx]; exact kh) hb hm
  | x :: l, b, m, hl, hb, hm => by
    have kx := hl x List.mem_cons_self
    have ebx : b.length = x.length := by rw [hb, kx.1]
    have ebh : b.length = h.length := by rw [hb, kh.1]
    have hl' : ∀ y ∈ l, Kd g y := fun y hy => hl y (List.mem_cons_of_mem _ hy)
    have hlh : ∀ y ∈ x :: (l ++ [h]), Kd g y := fun y hy => by
      rcases List.mem_cons.mp hy with e | e
      · rw [e]; exact kx
      · rcases List.mem_append.mp e with e | e
        · exact hl' y e
        · rw [List.mem_singleton.mp e]; exact kh
    have small : ∀ (z : List Int) (k : Nat), Kd g z → (subR b z (k : Int)).sum.toNat + 1 ≤ m := fun z k kz => by
      rw [subR_sum (by rw [hb, kz.1])]
      have := sum_kd kz
      have : 0 ≤ (k : Int) * z.sum := Int.mul_nonneg (by omega) (by omega)
      omega
    show cnt (x :: (l ++ [h])) b = _
    rw [cnt_to hlh hb hm]
    have e1 : ∀ j : Nat, cnt (l ++ [h]) (subR b x (j : Int)) = ((List.range m).map fun (k : Nat) => cnt l (subR (subR b x (j : Int)) h (k : Int))).sum := fun j =>
      cnt_last kh hl' (by rw [subR_len ebx, hb]) (small x j kx)
    have e2 : ∀ k : Nat, cnt (x :: l) (subR b h (k : Int)) = ((List.range m).map fun (j : Nat) => cnt l (subR (subR b x (j : Int)) h (k : Int))).sum := fun k => by
      rw [cnt_to hl (by rw [subR_len ebh, hb]) (small h k kh)]
      congr 1
      refine List.map_congr_left fun j _ => ?_
      rw [subR_comm]
    rw [show ((List.range m).map fun (k : Nat) => cnt (l ++ [h]) (subR b x (k : Int))) = ((List.range m).map fun (j : Nat) => ((List.range m).map fun (k : Nat) => cnt l (subR (subR b x (j : Int)) h (k : Int))).sum) from List.map_congr_left fun j _ => e1 j,
      show ((List.range m).map fun (k : Nat) => cnt (x :: l) (subR b h (k : Int))) = ((List.range m).map fun (k : Nat) => ((List.range m).map fun (j : Nat) => cnt l (subR (subR b x (j : Int)) h (k : Int))).sum) from List.map_congr_left fun k _ => e2 k]
    generalize List.range m = rs
    have swap : ∀ (xs ys : List Nat) (f : Nat → Nat → Nat), (xs.map fun j => (ys.map fun k => f j k).sum).sum = (ys.map fun k => (xs.map fun j => f j k).sum).sum := fun xs ys f => by
      induction xs with
      | nil =>
        rw [List.map_nil, List.sum_nil]
        refine (sum_zeroN fun z hz => ?_).symm
        obtain ⟨k, _, rfl⟩ := List.mem_map.mp hz
        rfl
      | cons x xs ih =>
        rw [List.map_cons, List.sum_cons, ih, ← sum_map_add]
        rfl
    exact swap rs rs fun j k => cnt l (subR (subR b x (j : Int)) h (k : Int))
/-! ### two lots beside one another -/
theorem subR_app {b1 b2 h1 h2 : List Int} {k : Int} (e : b1.length = h1.length) : subR (b1 ++ b2) (h1 ++ h2) k = subR b1 h1 k ++ subR b2 h2 k := by
  unfold subR
  rw [List.zip_append e, List.map_append]
theorem subR_nought : ∀ {b : List Int} {n : Nat} {k : Int}, b.length = n → subR b (List.replicate n 0) k = b
  | [], 0, _, _ => rfl
  | x :: b, n + 1, k, e => by
    rw [List.replicate_succ, subR_cons, subR_nought (by simpa using e), Int.mul_zero, Int.sub_zero]
  | [], n + 1, _, e => by simp at e
  | _ :: _, 0, _, e => by simp at e
theorem zero_app {b1 b2 : List Int} : zeroB (b1 ++ b2) = (zeroB b1 && zeroB b2) := by
  unfold zeroB
  rw [List.all_append]
theorem kd_left {g w : Nat} {h : List Int} (k : Kd g h) : Kd (g + w) (h ++ List.replicate w 0) :=
  ⟨by rw [List.length_append, List.length_replicate, k.1], fun n hn => by
    rcases List.mem_append.mp hn with e | e
    · exact k.2.1 n e
    · rw [List.eq_of_mem_replicate e]
      exact Int.le_refl _, let ⟨n, h1, h2⟩ := k.2.2; ⟨n, List.mem_append_left _ h1, h2⟩⟩
theorem kd_right {g w : Nat} {h : List Int} (k : Kd g h) : Kd (w + g) (List.replicate w 0 ++ h) :=
  ⟨by rw [List.length_append, List.length_replicate, k.1], fun n hn => by
    rcases List.mem_append.mp hn with e | e
    · rw [List.eq_of_mem_replicate e]
      exact Int.le_refl _
    · exact k.2.1 n e, let ⟨n, h1, h2⟩ := k.2.2; ⟨n, List.mem_append_right _ h1, h2⟩⟩
theorem sum_mul (f : Nat → Nat) (c : Nat) : ∀ l : List Nat, (l.map fun k => c * f k).sum = c * (l.map f).sum
  | [] => rfl
  | x :: l => by rw [List.map_cons, List.map_cons, List.sum_cons, List.sum_cons, sum_mul f c l, Nat.mul_add]
theorem sum_mul' (f : Nat → Nat) (c : Nat) : ∀ l : List Nat, (l.map fun k => f k * c).sum = (l.map f).sum * c
  | [] => by simp
  | x :: l => by rw [List.map_cons, List.map_cons, List.sum_cons, List.sum_cons, sum_mul' f c l, Nat.add_mul]
theorem cnt_right {g w : Nat} {b1 : List Int} (hb1 : b1.length = w) (n1 : ∀ n ∈ b1, 0 ≤ n) : ∀ {l : List (List Int)} {b2 : List Int}, (∀ x ∈ l, Kd g x) → b2.length = g → (∀ n ∈ b2, 0 ≤ n) → cnt (l.map fun r => List.replicate w 0 ++ r) (b1 ++ b2) = (if zeroB b1 = true then 1 else 0) * cnt l b2
  | [], b2, _, _, _ => by
    show cnt [] (b1 ++ b2) = _
    unfold cnt
    rw [zero_app]
    cases zeroB b1 <;> cases zeroB b2 <;> rfl
  | h :: t, b2, hl, hb2, n2 => by
    have kh := hl h List.mem_cons_self
    have hl' : ∀ x ∈ t, Kd g x := fun x hx => hl x (List.mem_cons_of_mem _ hx)
    have hlm : ∀ x ∈ (List.replicate w 0 ++ h) :: (t.map fun r => List.replicate w 0 ++ r), Kd (w + g) x := fun x hx => by
      rcases List.mem_cons.mp hx with e | e
      · rw [e]; exact kd_right kh
      · obtain ⟨r, h1, rfl⟩ := List.mem_map.mp e
        exact kd_right (hl' r h1)
    have es : b2.sum.toNat + 1 ≤ (b1 ++ b2).sum.toNat + 1 := by
      rw [List.sum_append]
      have := sum_nn n1
      omega
    rw [List.map_cons, cnt_to hlm (by rw [List.length_append, hb1, hb2]) (Nat.le_refl _), cnt_to hl hb2 es, ← sum_mul]
    congr 1
    refine List.map_congr_left fun k _ => ?_
    rw [subR_app (by rw [hb1, List.length_replicate]), subR_nought hb1]
    by_cases c : nnB (subR b2 h (k : Int)) = true
    · exact cnt_right hb1 n1 hl' (by rw [subR_len (by rw [hb2, kh.1]), hb2]) (nnB_iff.mp c)
    · have c' := Bool.eq_false_iff.mpr c
      rw [cnt_neg (g := w + g) (fun x hx => hlm x (List.mem_cons_of_mem _ hx)) (by rw [List.length_append, hb1, subR_len (by rw [hb2, kh.1]), hb2]) ?_, cnt_neg hl' (by rw [subR_len (by rw [hb2, kh.1]), hb2]) c', Nat.mul_zero]
      unfold nnB at c' ⊢
      rw [List.all_append, c', Bool.and_false]
theorem cnt_beside {g1 g2 : Nat} {l2 : List (List Int)} {b2 : List Int} (h2 : ∀ x ∈ l2, Kd g2 x) (hb2 : b2.length = g2) (n2 : ∀ n ∈ b2, 0 ≤ n) : ∀ {l1 : List (List Int)} {b1 : List Int}, (∀ x ∈ l1, Kd g1 x) → b1.length = g1 → (∀ n ∈ b1, 0 ≤ n) →
    cnt ((l1.map fun r => r ++ List.replicate g2 0) ++ l2.map fun r => List.replicate g1 0 ++ r) (b1 ++ b2) = cnt l1 b1 * cnt l2 b2
  | [], b1, _, hb1, n1 => by
    rw [List.map_nil, List.nil_append, cnt_right hb1 n1 h2 hb2 n2]
    rfl
  | h :: t, b1, hl, hb1, n1 => by
    have kh := hl h List.mem_cons_self
    have hl' : ∀ x ∈ t, Kd g1 x := fun x hx => hl x (List.mem_cons_of_mem _ hx)
    have hlm : ∀ x ∈ (h ++ List.replicate g2 0) :: ((t.map fun r => r ++ List.replicate g2 0) ++ l2.map fun r => List.replicate g1 0 ++ r), Kd (g1 + g2) x := fun x hx => by
      rcases List.mem_cons.mp hx with e | e
      · rw [e]; exact kd_left kh
      · rcases List.mem_append.mp e with e | e
        · obtain ⟨r, q1, rfl⟩ := List.mem_map.mp e
          exact kd_left (hl' r q1)
        · obtain ⟨r, q1, rfl⟩ := List.mem_map.mp e
          exact kd_right (h2 r q1)
    have es : b1.sum.toNat + 1 ≤ (b1 ++ b2).sum.toNat + 1 := by
      rw [List.sum_append]
      have := sum_nn n2
      omega
    have eb : b1.length = h.length := by rw [hb1, kh.1]
    rw [List.map_cons, List.cons_append, cnt_to hlm (by rw [List.length_append, hb1, hb2]) (Nat.le_refl _), cnt_to hl hb1 es, ← sum_mul']
    congr 1
    refine List.map_congr_left fun k _ => ?_
    rw [subR_app eb, subR_nought hb2]
    by_cases c : nnB (subR b1 h (k : Int)) = true
    · exact cnt_beside h2 hb2 n2 hl' (by rw [subR_len eb, hb1]) (nnB_iff.mp c)
    · have c' := Bool.eq_false_iff.mpr c
      rw [cnt_neg (g := g1 + g2) (fun x hx => hlm x (List.mem_cons_of_mem _ hx)) (by rw [List.length_append, hb2, subR_len eb, hb1]) ?_, cnt_neg hl' (by rw [subR_len eb, hb1]) c', Nat.zero_mul]
      unfold nnB at c' ⊢
      rw [List.all_append, c', Bool.false_and]
end HL

namespace HL
/-! ### the cells of a bill, in their order -/
/-- the cells by the first i amounts -/
def cellsI (b : List Int) : Nat → List (List Int)
  | 0 => [[]]
  | i + 1 => (cellsI b i).flatMap fun c => (List.range (b.getD i 0 + 1).toNat).map fun (p : Nat) => c ++ [(p : Int)]
def Bel : List Int → List Int → Prop
  | [], [] => True
  | x :: r, y :: b => (0 ≤ x ∧ x ≤ y) ∧ Bel r b
  | _, _ => False
def lx : List Int → List Int → Prop
  | x :: r, y :: s => x < y ∨ (x = y ∧ lx r s)
  | _, _ => False
theorem Bel.len : ∀ {r b : List Int}, Bel r b → r.length = b.length
  | [], [], _ => rfl
  | x :: r, y :: b, h => by rw [List.length_cons, List.length_cons, Bel.len h.2]
  | [], _ :: _, h => h.elim
  | _ :: _, [], h => h.elim
theorem Bel.nn : ∀ {r b : List Int}, Bel r b → ∀ n ∈ r, 0 ≤ n
  | [], [], _, n, hn => by cases hn
  | x :: r, y :: b, h, n, hn => by
    rcases List.mem_cons.mp hn with e | e
    · rw [e]; exact h.1.1
    · exact Bel.nn h.2 n e
  | [], _ :: _, h, _, _ => h.elim
  | _ :: _, [], h, _, _ => h.elim
theorem Bel.snoc {x a : Int} (h0 : 0 ≤ x) (h1 : x ≤ a) : ∀ {r b : List Int}, Bel r b → Bel (r ++ [x]) (b ++ [a])
  | [], [], _ => ⟨⟨h0, h1⟩, True.intro⟩
  | y :: r, z :: b, h => ⟨h.1, Bel.snoc h0 h1 h.2⟩
  | [], _ :: _, h => h.elim
  | _ :: _, [], h => h.elim
theorem Bel.unsnoc {a : Int} : ∀ {b r : List Int}, Bel r (b ++ [a]) → ∃ c x, r = c ++ [x] ∧ Bel c b ∧ 0 ≤ x ∧ x ≤ a
  | [], [x], h => ⟨[], x, rfl, True.intro, h.1.1, h.1.2⟩
  | [], x :: y :: r, h => h.2.elim
  | [], [], h => h.elim
  | z :: b, x :: r, h => by
    obtain ⟨c, y, e, h1, h2⟩ := Bel.unsnoc (b := b) h.2
    exact ⟨x :: c, y, by rw [e]; rfl, ⟨h.1, h1⟩, h2⟩
  | z :: b, [], h => h.elim
theorem Bel.self : ∀ {b : List Int}, (∀ n ∈ b, 0 ≤ n) → Bel b b
  | [], _ => True.intro
  | x :: b, h => ⟨⟨h x List.mem_cons_self, Int.le_refl _⟩, Bel.self fun n hn => h n (List.mem_cons_of_mem _ hn)⟩
theorem take_snoc {b : List Int} {i : Nat} (h : i < b.length) : b.take (i + 1) = b.take i ++ [b.getD i 0] := by
  rw [List.take_add_one, List.getElem?_eq_getElem h, List.getD_eq_getElem?_getD, List.getElem?_eq_getElem h]
  rfl
theorem cells_mem {b : List Int} (hb : ∀ n ∈ b, 0 ≤ n) : ∀ {i : Nat}, i ≤ b.length → ∀ r, r ∈ cellsI b i ↔ Bel r (b.take i)
  | 0, _, r => by
    rw [List.take_zero]
    show r ∈ [[]] ↔ _
    rw [List.mem_singleton]
    constructor
    · intro e
      rw [e]
      exact True.intro
    · intro h
      cases r with
      | nil => rfl
      | cons x r => exact h.elim
  | i + 1, hi, r => by
    have hg : 0 ≤ b.getD i 0 := by
      rw [List.getD_eq_getElem?_getD, List.getElem?_eq_getElem (show i < b.length by omega)]
      exact hb _ (List.getElem_mem _)
    rw [take_snoc (by omega)]
    show r ∈ (cellsI b i).flatMap _ ↔ _
    rw [List.mem_flatMap]
    constructor
    · rintro ⟨c, hc, hr⟩
      obtain ⟨p, hp, rfl⟩ := List.mem_map.mp hr
      have := List.mem_range.mp hp
      exact ((cells_mem hb (by omega) c).mp hc).snoc (by omega) (by omega)
    · intro h
      obtain ⟨c, x, rfl, h1, h2, h3⟩ := Bel.unsnoc h
      exact ⟨c, (cells_mem hb (by omega) c).mpr h1, List.mem_map.mpr ⟨x.toNat, List.mem_range.mpr (by omega), by rw [Int.toNat_of_nonneg h2]⟩⟩
theorem lx_app : ∀ {c c' d d' : List Int}, c.length = c'.length → lx c c' → lx (c ++ d) (c' ++ d')
  | x :: c, y :: c', d, d', e, h => by
    rcases h with h | ⟨h1, h2⟩
    · exact .inl h
    · exact .inr ⟨h1, lx_app (by simpa using e) h2⟩
  | [], [], _, _, _, h => h.elim
  | [], _ :: _, _, _, _, h => h.elim
  | _ :: _, [], _, _, _, h => h.elim
theorem lx_last {x y : Int} (h : x < y) : ∀ {c : List Int}, lx (c ++ [x]) (c ++ [y])
  | [] => .inl h
  | z :: c => .inr ⟨rfl, lx_last h⟩
theorem lx_asymm : ∀ {r s : List Int}, lx r s → lx s r → False
  | x :: r, y :: s, h, k => by
    rcases h with h | ⟨h1, h2⟩
    · rcases k with k | ⟨k1, _⟩
      · omega
      · omega
    · rcases k with k | ⟨_, k2⟩
      · omega
      · exact lx_asymm h2 k2
  | [], _, h, _ => h.elim
  | _ :: _, [], h, _ => h.elim
theorem lx_sub : ∀ {c h : List Int}, c.length = h.length → (∀ n ∈ h, 0 ≤ n) → (∃ n ∈ h, 0 < n) → lx (subR c h 1) c
  | [], [], _, _, ⟨n, hn, _⟩ => by cases hn
  | x :: c, y :: h, e, h0, ⟨n, hn, hp⟩ => by
    rw [subR_cons]
    have y0 := h0 y List.mem_cons_self
    by_cases z : 0 < y
    · exact .inl (by omega)
    · refine .inr ⟨by omega, lx_sub (by simpa using e) (fun m hm => h0 m (List.mem_cons_of_mem _ hm)) ⟨n, ?_, hp⟩⟩
      rcases List.mem_cons.mp hn with q | q
      · omega
      · exact q
  | [], _ :: _, e, _, _ => by simp at e
  | _ :: _, [], e, _, _ => by simp at e
theorem cells_len {b : List Int} : ∀ {i : Nat} {r : List Int}, r ∈ cellsI b i → r.length = i
  | 0, r, h => by rw [List.mem_singleton.mp h]; rfl
  | i + 1, r, h => by
    obtain ⟨c, hc, hr⟩ := List.mem_flatMap.mp h
    obtain ⟨p, _, rfl⟩ := List.mem_map.mp hr
    rw [List.length_append, cells_len hc]
    rfl
theorem cells_rise {b : List Int} : ∀ {i : Nat}, (cellsI b i).Pairwise lx
  | 0 => List.pairwise_singleton _ _
  | i + 1 => by
    show ((cellsI b i).flatMap _).Pairwise lx
    rw [List.pairwise_flatMap]
    refine ⟨fun c _ => ?_, (cells_rise (i := i)).imp_of_mem fun {c c'} hc hc' h x hx y hy => ?_⟩
    · rw [List.pairwise_map]
      exact (List.pairwise_lt_range).imp fun {p q} h => lx_last (by omega)
    · obtain ⟨p, _, rfl⟩ := List.mem_map.mp hx
      obtain ⟨q, _, rfl⟩ := List.mem_map.mp hy
      exact lx_app (by rw [cells_len hc, cells_len hc']) h
theorem flat_len {α β : Type} {f : α → List β} {n : Nat} : ∀ {l : List α}, (∀ x ∈ l, (f x).length = n) → (l.flatMap f).length = l.length * n
  | [], _ => by simp
  | x :: l, h => by
    rw [List.flatMap_cons, List.length_append, h x List.mem_cons_self, flat_len fun y hy => h y (List.mem_cons_of_mem _ hy), List.length_cons, Nat.add_mul]
    omega
theorem cells_many {b : List Int} {i : Nat} : (cellsI b (i + 1)).length = (cellsI b i).length * (b.getD i 0 + 1).toNat :=
  flat_len fun c _ => by rw [List.length_map, List.length_range]
theorem cells_head {b : List Int} (hb : ∀ n ∈ b, 0 ≤ n) : ∀ {i : Nat}, i ≤ b.length → (cellsI b i)[0]? = some (List.replicate i 0)
  | 0, _ => rfl
  | i + 1, hi => by
    have hg : 0 ≤ b.getD i 0 := by
      rw [List.getD_eq_getElem?_getD, List.getElem?_eq_getElem (show i < b.length by omega)]
      exact hb _ (List.getElem_mem _)
    have ih := cells_head hb (i := i) (by omega)
    show ((cellsI b i).flatMap _)[0]? = _
    cases e : cellsI b i with
    | nil => rw [e] at ih; cases ih
    | cons c cs =>
      rw [e] at ih
      cases Option.some.inj ih
      rw [List.flatMap_cons]
      obtain ⟨m, hm⟩ : ∃ m, (b.getD i 0 + 1).toNat = m + 1 := ⟨(b.getD i 0).toNat, by omega⟩
      rw [hm, List.range_succ_eq_map, List.map_cons, List.cons_append]
      show some (List.replicate i 0 ++ [((0 : Nat) : Int)]) = _
      rw [List.replicate_succ']
      rfl
/-- a cell less a kind stands ahead of it, where it is one -/
theorem cell_ahead {b : List Int} (hb : ∀ n ∈ b, 0 ≤ n) {i : Nat} {c h : List Int} (kh : Kd b.length h) (hc : (cellsI b b.length)[i]? = some c) (hn : nnB (subR c h 1) = true) : subR c h 1 ∈ (cellsI b b.length).take i := by
  have hcm := (cells_mem hb (Nat.le_refl _) c).mp (List.mem_of_getElem? hc)
  rw [List.take_length] at hcm
  have hl : c.length = h.length := by rw [hcm.len, kh.1]
  have below : ∀ {c b h : List Int}, Bel c b → c.length = h.length → (∀ n ∈ h, 0 ≤ n) → nnB (subR c h 1) = true → Bel (subR c h 1) b := by
    intro c
    induction c with
    | nil =>
      intro b h hb hl _ _
      cases b with
      | nil => exact True.intro
      | cons y b => exact hb.elim
    | cons x c ih =>
      intro b h hb hl h0 hn
      cases b with
      | nil => exact hb.elim
      | cons y b =>
        cases h with
        | nil => simp at hl
        | cons z h =>
          rw [subR_cons] at hn ⊢
          unfold nnB at hn
          rw [List.all_cons, Bool.and_eq_true] at hn
          have n1 := of_decide_eq_true hn.1
          have z0 := h0 z List.mem_cons_self
          exact ⟨⟨n1, by have := hb.1.2; omega⟩, ih hb.2 (by simpa using hl) (fun n hn' => h0 n (List.mem_cons_of_mem _ hn')) hn.2⟩
  have hm : subR c h 1 ∈ cellsI b b.length := (cells_mem hb (Nat.le_refl _) _).mpr (by rw [List.take_length]; exact below hcm hl kh.2.1 hn)
  have hlt := lx_sub hl kh.2.1 kh.2.2
  obtain ⟨j, hj, ej⟩ := List.mem_iff_getElem.mp hm
  obtain ⟨hi, ei⟩ := List.getElem?_eq_some_iff.mp hc
  have pw := List.pairwise_iff_getElem.mp (cells_rise (b := b) (i := b.length))
  by_cases c1 : j < i
  · exact List.mem_iff_getElem.mpr ⟨j, by rw [List.length_take]; omega, by rw [List.getElem_take]; exact ej⟩
  · exfalso
    by_cases c2 : j = i
    · subst c2
      have e : subR c h 1 = c := ej.symm.trans ei
      rw [e] at hlt
      exact lx_asymm hlt hlt
    · have := pw i j hi hj (by omega)
      rw [ei, ej] at this
      exact lx_asymm this hlt
end HL

namespace HL
/-! the fillings of a bill, in their order; their places -/
def fils : List (List Int) → List Int → List (List Int)
  | [], b => if zeroB b = true then [[]] else []
  | h :: t, b => (List.range (b.sum.toNat + 1)).flatMap fun (k : Nat) => (fils t (subR b h (k : Int))).map fun c => (k : Int) :: c
/-- counts that come to a bill, none below 0 -/
def Comes : List (List Int) → List Int → List Int → Prop
  | [], [], b => zeroB b = true
  | h :: t, k :: c, b => 0 ≤ k ∧ Comes t c (subR b h k)
  | _, _, _ => False
theorem len_flat {α : Type} (f : Nat → List α) : ∀ l : List Nat, (l.flatMap f).length = (l.map fun k => (f k).length).sum
  | [] => rfl
  | x :: l => by rw [List.flatMap_cons, List.length_append, List.map_cons, List.sum_cons, len_flat f l]
theorem fils_len : ∀ (l : List (List Int)) (b : List Int), (fils l b).length = cnt l b
  | [], b => by
    unfold fils cnt
    split <;> rfl
  | h :: t, b => by
    unfold fils cnt
    rw [len_flat]
    congr 1
    refine List.map_congr_left fun k _ => ?_
    rw [List.length_map, fils_len t _]
theorem comes_len : ∀ {l : List (List Int)} {c b : List Int}, Comes l c b → c.length = l.length
  | [], [], _, _ => rfl
  | [], _ :: _, _, h => h.elim
  | _ :: _, [], _, h => h.elim
  | h :: t, k :: c, b, q => by rw [List.length_cons, List.length_cons, comes_len q.2]
theorem comes_nn : ∀ {l : List (List Int)} {c b : List Int}, Comes l c b → ∀ n ∈ c, 0 ≤ n
  | [], [], _, _ => fun n hn => by cases hn
  | [], _ :: _, _, h => h.elim
  | _ :: _, [], _, h => h.elim
  | h :: t, k :: c, b, q => fun n hn => by
    rcases List.mem_cons.mp hn with e | e
    · rw [e]; exact q.1
    · exact comes_nn q.2 n e
/-- what comes to a bill is not below 0 -/
theorem comes_bill {g : Nat} : ∀ {l : List (List Int)} {c b : List Int}, (∀ h ∈ l, Kd g h) → b.length = g → Comes l c b → nnB b = true
  | [], [], b, _, _, q => nnB_iff.mpr fun n hn => by rw [zeroB_iff.mp q n hn]; exact Int.le_refl _
  | [], _ :: _, _, _, _, h => h.elim
  | _ :: _, [], _, _, _, h => h.elim
  | h :: t, k :: c, b, hl, hb, q => by
    have kh := hl h List.mem_cons_self
    have eb : b.length = h.length := by rw [hb, kh.1]
    have r := comes_bill (fun x hx => hl x (List.mem_cons_of_mem _ hx)) (by rw [subR_len eb, hb]) q.2
    cases e : nnB b with
    | true => rfl
    | false =>
      rw [sub_neg eb kh.2.1 q.1 e] at r
      cases r
theorem fils_mem {g : Nat} : ∀ {l : List (List Int)} {b c : List Int}, (∀ h ∈ l, Kd g h) → b.length = g → (c ∈ fils l b ↔ Comes l c b)
  | [], b, c, _, _ => by
    unfold fils
    cases e : zeroB b with
    | true =>
      rw [if_pos rfl, List.mem_singleton]
      cases c with
      | nil => exact ⟨fun _ => e, fun _ => rfl⟩
      | cons k c => exact ⟨fun h => (by cases h), fun h => h.elim⟩
    | false =>
      rw [if_neg (by decide)]
      cases c with
      | nil => exact ⟨fun h => (by cases h), fun h => (by rw [show Comes [] [] b = (zeroB b = true) from rfl, e] at h; cases h)⟩
      | cons k c => exact ⟨fun h => (by cases h), fun h => h.elim⟩
  | h :: t, b, c, hl, hb => by
    have kh := hl h List.mem_cons_self
    have eb : b.length = h.length := by rw [hb, kh.1]
    have ht : ∀ x ∈ t, Kd g x := fun x hx => hl x (List.mem_cons_of_mem _ hx)
    unfold fils
    rw [List.mem_flatMap]
    constructor
    · rintro ⟨k, _, hk⟩
      obtain ⟨c', hc, rfl⟩ := List.mem_map.mp hk
      exact ⟨Int.natCast_nonneg k, (fils_mem ht (by rw [subR_len eb, hb])).mp hc⟩
    · intro q
      cases c with
      | nil => exact q.elim
      | cons k c =>
        obtain ⟨n, rfl⟩ : ∃ n : Nat, k = (n : Int) := ⟨k.toNat, by have := q.1; omega⟩
        have r := comes_bill ht (by rw [subR_len eb, hb]) q.2
        refine ⟨n, List.mem_range.mpr ?_, List.mem_map.mpr ⟨c, (fils_mem ht (by rw [subR_len eb, hb])).mpr q.2, rfl⟩⟩
        by_cases w : n < b.sum.toNat + 1
        · exact w
        · rw [sub_far kh hb (by omega)] at r
          cases r
theorem fils_rise : ∀ (l : List (List Int)) (b : List Int), (fils l b).Pairwise lx
  | [], b => by
    unfold fils
    split
    · exact List.pairwise_singleton _ _
    · exact .nil
  | h :: t, b => by
    unfold fils
    rw [List.pairwise_flatMap]
    refine ⟨fun k _ => ?_, ?_⟩
    · rw [List.pairwise_map]
      exact (fils_rise t _).imp fun {p q} h => .inr ⟨rfl, h⟩
    · refine List.pairwise_lt_range.imp fun {p q} hpq => ?_
      intro x hx y hy
      obtain ⟨x', _, rfl⟩ := List.mem_map.mp hx
      obtain ⟨y', _, rfl⟩ := List.mem_map.mp hy
      exact .inl (by omega)
/-- the place of counts among the fillings -/
def plc : List (List Int) → List Int → List Int → Nat
  | h :: t, k :: c, b => ((List.range k.toNat).map fun (j : Nat) => cnt t (subR b h (j : Int))).sum + plc t c (subR b h k)
  | _, _, _ => 0
theorem flat_at {α : Type} (f : Nat → List α) {x : α} {i : Nat} : ∀ {n k : Nat}, k < n → (f k)[i]? = some x → ((List.range n).flatMap f)[((List.range k).map fun j => (f j).length).sum + i]? = some x
  | 0, _, h, _ => absurd h (Nat.not_lt_zero _)
  | n + 1, k, h, e => by
    rw [List.range_succ, List.flatMap_append]
    have hi : i < (f k).length := (List.getElem?_eq_some_iff.mp e).1
    by_cases c : k = n
    · subst c
      rw [List.getElem?_append_right (by rw [len_flat]; omega), len_flat, Nat.add_sub_cancel_left, List.flatMap_cons, List.flatMap_nil, List.append_nil]
      exact e
    · have hk : k < n := by omega
      have r := flat_at f hk e
      rw [List.getElem?_append_left (List.getElem?_eq_some_iff.mp r).1]
      exact r
theorem plc_at {g : Nat} : ∀ {l : List (List Int)} {c b : List Int}, (∀ h ∈ l, Kd g h) → b.length = g → Comes l c b → (fils l b)[plc l c b]? = some c
  | [], [], b, _, _, q => by
    have q' : zeroB b = true := q
    unfold fils plc
    rw [if_pos q']
    rfl
  | [], _ :: _, _, _, _, h => h.elim
  | _ :: _, [], _, _, _, h => h.elim
  | h :: t, k :: c, b, hl, hb, q => by
    have kh := hl h List.mem_cons_self
    have eb : b.length = h.length := by rw [hb, kh.1]
    have ht : ∀ x ∈ t, Kd g x := fun x hx => hl x (List.mem_cons_of_mem _ hx)
    obtain ⟨n, rfl⟩ : ∃ n : Nat, k = (n : Int) := ⟨k.toNat, by have := q.1; omega⟩
    have r := comes_bill ht (by rw [subR_len eb, hb]) q.2
    have hn : n < b.sum.toNat + 1 := by
      by_cases w : n < b.sum.toNat + 1
      · exact w
      · rw [sub_far kh hb (by omega)] at r
        cases r
    have ih := plc_at ht (by rw [subR_len eb, hb]) q.2
    unfold fils plc
    have e := flat_at (fun (k : Nat) => (fils t (subR b h (k : Int))).map fun c => (k : Int) :: c) (x := (n : Int) :: c) (i := plc t c (subR b h (n : Int))) hn (by rw [List.getElem?_map, ih]; rfl)
    have es : ((List.range n).map fun j => ((fun (k : Nat) => (fils t (subR b h (k : Int))).map fun c => (k : Int) :: c) j).length).sum = ((List.range n).map fun (j : Nat) => cnt t (subR b h (j : Int))).sum := by
      congr 1
      refine List.map_congr_left fun j _ => ?_
      show ((fils t (subR b h (j : Int))).map fun c => (j : Int) :: c).length = _
      rw [List.length_map, fils_len]
    rw [es] at e
    rw [Int.toNat_natCast]
    exact e
end HL

namespace HL
/-! the law's own list of loads, kind by kind, and the fillings among them -/
def takes (b h : List Int) : List Nat := (List.range (b.sum.toNat + 1)).filter fun (k : Nat) => nnB (subR b h (k : Int))
def lds : List (List Int) → List (List Int × List Int) → List (List Int × List Int)
  | [], rows => rows
  | h :: t, rows => lds t (rows.flatMap fun q => (takes q.2 h).map fun (k : Nat) => (q.1 ++ [(k : Int)], subR q.2 h (k : Int)))
theorem flat_filter {α : Type} {p : Nat → Bool} {f : Nat → List α} : ∀ {l : List Nat}, (∀ k ∈ l, p k = false → f k = []) → (l.filter p).flatMap f = l.flatMap f
  | [], _ => rfl
  | x :: l, h => by
    have ih := flat_filter (l := l) (p := p) (f := f) fun k hk => h k (List.mem_cons_of_mem _ hk)
    rw [List.filter_cons, List.flatMap_cons]
    cases e : p x with
    | true => rw [if_pos rfl, List.flatMap_cons, ih]
    | false => rw [if_neg (by decide), h x List.mem_cons_self e, ih]; rfl
theorem fils_neg {g : Nat} {l : List (List Int)} {b : List Int} (hl : ∀ h ∈ l, Kd g h) (hb : b.length = g) (e : nnB b = false) : fils l b = [] := by
  have := fils_len l b
  rw [cnt_neg hl hb e] at this
  exact List.eq_nil_of_length_eq_zero this
theorem flat_congr {α β : Type} {f g : α → List β} : ∀ {l : List α}, (∀ x ∈ l, f x = g x) → l.flatMap f = l.flatMap g
  | [], _ => rfl
  | x :: l, h => by rw [List.flatMap_cons, List.flatMap_cons, h x List.mem_cons_self, flat_congr fun y hy => h y (List.mem_cons_of_mem _ hy)]
theorem flat_flat {α β γ : Type} {f : α → List β} {g : β → List γ} : ∀ {l : List α}, (l.flatMap f).flatMap g = l.flatMap fun x => (f x).flatMap g
  | [] => rfl
  | x :: l => by rw [List.flatMap_cons, List.flatMap_append, List.flatMap_cons, flat_flat]
theorem flat_map {α β γ : Type} {f : α → β} {g : β → List γ} : ∀ {l : List α}, (l.map f).flatMap g = l.flatMap fun x => g (f x)
  | [] => rfl
  | x :: l => by rw [List.map_cons, List.flatMap_cons, List.flatMap_cons, flat_map]
theorem map_flat {α β γ : Type} {f : α → List β} {g : β → γ} : ∀ {l : List α}, (l.flatMap f).map g = l.flatMap fun x => (f x).map g
  | [] => rfl
  | x :: l => by rw [List.flatMap_cons, List.map_append, List.flatMap_cons, map_flat]
theorem base_fils : ∀ rows : List (List Int × List Int), (rows.filter fun q => zeroB q.2).map (·.1) = rows.flatMap fun q => (fils [] q.2).map fun c => q.1 ++ c
  | [] => rfl
  | q :: rows => by
    rw [List.flatMap_cons, ← base_fils rows, List.filter_cons]
    unfold fils
    cases e : zeroB q.2 with
    | true => rw [if_pos rfl, if_pos rfl, List.map_cons]; simp
    | false => rw [if_neg (by decide), if_neg (by decide)]; rfl
theorem lds_fils {g : Nat} : ∀ {l : List (List Int)} {rows : List (List Int × List Int)}, (∀ h ∈ l, Kd g h) → (∀ q ∈ rows, q.2.length = g) →
    ((lds l rows).filter fun q => zeroB q.2).map (·.1) = rows.flatMap fun q => (fils l q.2).map fun c => q.1 ++ c
  | [], rows, _, _ => base_fils rows
  | h :: t, rows, hl, hr => by
    have kh := hl h List.mem_cons_self
    have ht : ∀ x ∈ t, Kd g x := fun x hx => hl x (List.mem_cons_of_mem _ hx)
    show ((lds t (rows.flatMap fun q => (takes q.2 h).map fun (k : Nat) => (q.1 ++ [(k : Int)], subR q.2 h (k : Int)))).filter fun q => zeroB q.2).map (·.1) = _
    rw [lds_fils ht fun q hq => ?_, flat_flat]
    · refine flat_congr fun q hq => ?_
      have eb : q.2.length = h.length := by rw [hr q hq, kh.1]
      rw [flat_map]
      unfold takes
      rw [flat_filter fun k _ hk => ?_]
      · rw [show fils (h :: t) q.2 = (List.range (q.2.sum.toNat + 1)).flatMap fun (k : Nat) => (fils t (subR q.2 h (k : Int))).map fun c => (k : Int) :: c from rfl, map_flat]
        refine flat_congr fun k _ => ?_
        rw [List.map_map]
        refine List.map_congr_left fun c _ => ?_
        show q.1 ++ [(k : Int)] ++ c = q.1 ++ ((k : Int) :: c)
        rw [List.append_assoc]
        rfl
      · show (fils t (subR q.2 h (k : Int))).map _ = []
        rw [fils_neg ht (by rw [subR_len eb, hr q hq]) hk]
        rfl
    · obtain ⟨q0, hq0, hm⟩ := List.mem_flatMap.mp hq
      obtain ⟨k, _, rfl⟩ := List.mem_map.mp hm
      show (subR q0.2 h (k : Int)).length = g
      rw [subR_len (by rw [hr q0 hq0, kh.1]), hr q0 hq0]
/-- all fillings, as the law lists them -/
theorem all_fils {g : Nat} {l : List (List Int)} {b : List Int} (hl : ∀ h ∈ l, Kd g h) (hb : b.length = g) : ((lds l [([], b)]).filter fun q => zeroB q.2).map (·.1) = fils l b := by
  rw [lds_fils hl fun q hq => by rw [List.mem_singleton.mp hq]; exact hb]
  rw [List.flatMap_cons, List.flatMap_nil, List.append_nil]
  simp
end HL

namespace HL
/-! how often a kind goes in; the fillings step by step -/
theorem neg_on {g : Nat} {b h : List Int} {j k : Nat} (kh : Kd g h) (hb : b.length = g) (hjk : j ≤ k) (e : nnB (subR b h (j : Int)) = false) : nnB (subR b h (k : Int)) = false := by
  have eb : b.length = h.length := by rw [hb, kh.1]
  have := sub_neg (b := subR b h (j : Int)) (h := h) (k := ((k - j : Nat) : Int)) (by rw [subR_len eb, eb]) kh.2.1 (Int.natCast_nonneg _) e
  rw [subR_add, show (j : Int) + ((k - j : Nat) : Int) = (k : Int) by omega] at this
  exact this
/-- a loop that counts up until the kind goes in no more has told all takings -/
theorem takes_to {g : Nat} {b h : List Int} {k : Nat} (kh : Kd g h) (hb : b.length = g) (h1 : ∀ j, j < k → nnB (subR b h (j : Int)) = true) (h2 : nnB (subR b h (k : Int)) = false) : takes b h = List.range k := by
  have hk : k ≤ b.sum.toNat + 1 := by
    by_cases c : k ≤ b.sum.toNat + 1
    · exact c
    · have := h1 (b.sum.toNat + 1) (by omega)
      rw [sub_far kh hb (by omega)] at this
      cases this
  unfold takes
  rw [show b.sum.toNat + 1 = k + (b.sum.toNat + 1 - k) by omega, List.range_add, List.filter_append]
  have e1 : (List.range k).filter (fun (k : Nat) => nnB (subR b h (k : Int))) = List.range k := List.filter_eq_self.mpr fun j hj => h1 j (List.mem_range.mp hj)
  have e2 : ((List.range (b.sum.toNat + 1 - k)).map (k + ·)).filter (fun (k : Nat) => nnB (subR b h (k : Int))) = [] := List.filter_eq_nil_iff.mpr fun j hj => by
    obtain ⟨i, _, rfl⟩ := List.mem_map.mp hj
    rw [neg_on kh hb (Nat.le_add_right k i) h2]
    decide
  rw [e1, e2, List.append_nil]
/-- how far such a loop can come -/
theorem fits_lt {g : Nat} {b h : List Int} {k : Nat} (kh : Kd g h) (hb : b.length = g) (e : nnB (subR b h (k : Int)) = true) : k ≤ b.sum.toNat := by
  by_cases c : k ≤ b.sum.toNat
  · exact c
  · rw [sub_far kh hb (by omega)] at e
    cases e
theorem fils_to {g : Nat} {h : List Int} {t : List (List Int)} {b : List Int} {m : Nat} (hl : ∀ x ∈ h :: t, Kd g x) (hb : b.length = g) (hm : b.sum.toNat + 1 ≤ m) :
    fils (h :: t) b = (List.range m).flatMap fun (k : Nat) => (fils t (subR b h (k : Int))).map fun c => (k : Int) :: c := by
  have kh := hl h List.mem_cons_self
  have eb : b.length = h.length := by rw [hb, kh.1]
  have ht : ∀ x ∈ t, Kd g x := fun x hx => hl x (List.mem_cons_of_mem _ hx)
  rw [show m = (b.sum.toNat + 1) + (m - (b.sum.toNat + 1)) by omega, List.range_add, List.flatMap_append]
  have e2 : ((List.range (m - (b.sum.toNat + 1))).map ((b.sum.toNat + 1) + ·)).flatMap (fun (k : Nat) => (fils t (subR b h (k : Int))).map fun c => (k : Int) :: c) = [] := by
    rw [flat_map]
    refine List.flatMap_eq_nil_iff.mpr fun i _ => ?_
    rw [fils_neg ht (by rw [subR_len eb, hb]) (sub_far kh hb (by omega))]
    rfl
  rw [e2, List.append_nil]
  rfl
def bump : List Int → List Int
  | k :: c => (k + 1) :: c
  | [] => []
theorem fils_step {g : Nat} {h : List Int} {t : List (List Int)} {b : List Int} (hl : ∀ x ∈ h :: t, Kd g x) (hb : b.length = g) :
    fils (h :: t) b = (fils t b).map (fun c => (0 : Int) :: c) ++ (fils (h :: t) (subR b h 1)).map bump := by
  have kh := hl h List.mem_cons_self
  have eb : b.length = h.length := by rw [hb, kh.1]
  rw [fils_to hl hb (m := b.sum.toNat + 1 + 1) (by omega), List.range_succ_eq_map, List.flatMap_cons, fils_to hl (b := subR b h 1) (by rw [subR_len eb, hb]) (sub_sum_le kh hb), map_flat, flat_map, show ((0 : Nat) : Int) = 0 from rfl, subR_zero eb]
  congr 1
  refine flat_congr fun k _ => ?_
  rw [List.map_map, subR_add, show (1 : Int) + (k : Int) = ((k.succ : Nat) : Int) by omega]
  refine List.map_congr_left fun c _ => ?_
  show ((k.succ : Nat) : Int) :: c = ((k : Int) + 1) :: c
  congr 1
theorem at_lt {g : Nat} {h : List Int} {t : List (List Int)} {b : List Int} {p : Nat} (hl : ∀ x ∈ h :: t, Kd g x) (hb : b.length = g) (hp : p < cnt t b) : (fils (h :: t) b)[p]? = ((fils t b)[p]?).map fun c => (0 : Int) :: c := by
  rw [fils_step hl hb, List.getElem?_append_left (by rw [List.length_map, fils_len]; exact hp), List.getElem?_map]
theorem at_ge {g : Nat} {h : List Int} {t : List (List Int)} {b : List Int} {p : Nat} (hl : ∀ x ∈ h :: t, Kd g x) (hb : b.length = g) (hp : cnt t b ≤ p) : (fils (h :: t) b)[p]? = ((fils (h :: t) (subR b h 1))[p - cnt t b]?).map bump := by
  rw [fils_step hl hb, List.getElem?_append_right (by rw [List.length_map, fils_len]; exact hp), List.length_map, fils_len, List.getElem?_map]
end HL

namespace HL
namespace BL
/-! loads, steps that better them, and when steps that are complete lead to the best load -/
abbrev Vec := Nat → Int
def un (i : Nat) : Vec := fun j => if j = i then 1 else 0
def ad (x y : Vec) : Vec := fun i => x i + y i
def sb (x y : Vec) : Vec := fun i => x i - y i
def Ld (n : Nat) (x : Vec) : Prop := (∀ i, 0 ≤ x i) ∧ ∀ i, n ≤ i → x i = 0
def Fit (s x : Vec) : Prop := ∀ i, s i ≤ x i
structure Ax (n : Nat) (B : Vec → Vec) (dg : Vec → Int) (Ok : Vec → Prop) (mu : Vec → Nat) : Prop where
  badd : ∀ x y, B (ad x y) = ad (B x) (B y)
  bsub : ∀ x y, B (sb x y) = sb (B x) (B y)
  dB : ∀ x y, B x = B y → dg x = dg y
  dadd : ∀ x y, dg (ad x y) = dg x + dg y
  dnn : ∀ x, Ld n x → 0 ≤ dg x
  dpos : ∀ i, i < n → 0 < dg (un i)
  okB : ∀ x y, B x = B y → Ok x → Ok y
  okd : ∀ x y, Ld n x → Ld n y → Ok (ad x y) → Ok x
/-- a step: no good's amount changes, and loads that it fits are bettered -/
structure St (n : Nat) (B : Vec → Vec) (Ok : Vec → Prop) (mu : Vec → Nat) (s : Vec) : Prop where
  ker : ∀ i, B s i = 0
  sup : ∀ i, n ≤ i → s i = 0
  dec : ∀ x, Ld n x → Ok x → Fit s x → mu (sb x s) < mu x
inductive Rt (S : Vec → Prop) : Vec → Vec → Prop
  | refl (x : Vec) : Rt S x x
  | step {x y s : Vec} : S s → Fit s x → Rt S (sb x s) y → Rt S x y
def Jn (S : Vec → Prop) (x y : Vec) : Prop := ∃ w, Rt S x w ∧ Rt S y w
theorem Rt.trans {S : Vec → Prop} {x y z : Vec} (h : Rt S x y) (g : Rt S y z) : Rt S x z := by
  induction h with
  | refl => exact g
  | step hs hf _ ih => exact .step hs hf (ih g)
theorem Rt.mono {S S' : Vec → Prop} (m : ∀ s, S s → S' s) {x y : Vec} (h : Rt S x y) : Rt S' x y := by
  induction h with
  | refl => exact .refl _
  | step hs hf _ ih => exact .step (m _ hs) hf ih
theorem Jn.mono {S S' : Vec → Prop} (m : ∀ s, S s → S' s) {x y : Vec} (h : Jn S x y) : Jn S' x y := by
  obtain ⟨w, h1, h2⟩ := h
  exact ⟨w, h1.mono m, h2.mono m⟩
theorem Jn.symm {S : Vec → Prop} {x y : Vec} (h : Jn S x y) : Jn S y x := by
  obtain ⟨w, h1, h2⟩ := h
  exact ⟨w, h2, h1⟩
theorem sb_ad (x s e : Vec) : sb (ad x e) s = ad (sb x s) e := by
  funext i
  show x i + e i - s i = x i - s i + e i
  omega
theorem Rt.add {S : Vec → Prop} {x y e : Vec} (he : ∀ i, 0 ≤ e i) (h : Rt S x y) : Rt S (ad x e) (ad y e) := by
  induction h with
  | refl => exact .refl _
  | @step x y s hs hf _ ih =>
    refine .step hs (fun i => ?_) ?_
    · have := hf i
      have := he i
      show s i ≤ x i + e i
      omega
    · rw [sb_ad]
      exact ih
section
variable {n : Nat} {B : Vec → Vec} {dg : Vec → Int} {Ok : Vec → Prop} {mu : Vec → Nat} {S : Vec → Prop}
theorem ld_step {s x : Vec} (hs : St n B Ok mu s) (hx : Ld n x) (hf : Fit s x) : Ld n (sb x s) := ⟨fun i => by
    have := hf i
    show 0 ≤ x i - s i
    omega, fun i hi => by
    show x i - s i = 0
    rw [hx.2 i hi, hs.sup i hi]
    rfl⟩
theorem b_step (A : Ax n B dg Ok mu) {s x : Vec} (hs : St n B Ok mu s) : B (sb x s) = B x := by
  rw [A.bsub]
  funext i
  show B x i - B s i = B x i
  rw [hs.ker i]
  omega
theorem rt_keeps (A : Ax n B dg Ok mu) (hS : ∀ s, S s → St n B Ok mu s) {x y : Vec} (h : Rt S x y) : Ld n x → Ld n y ∧ B y = B x := by
  induction h with
  | refl => exact fun h => ⟨h, rfl⟩
  | step hs hf _ ih =>
    intro hx
    obtain ⟨a, b⟩ := ih (ld_step (hS _ hs) hx hf)
    exact ⟨a, b.trans (b_step A (hS _ hs))⟩
theorem rt_mu (A : Ax n B dg Ok mu) (hS : ∀ s, S s → St n B Ok mu s) {x y : Vec} (h : Rt S x y) : Ld n x → Ok x → mu y ≤ mu x := by
  induction h with
  | refl => exact fun _ _ => Nat.le_refl _
  | step hs hf _ ih =>
    intro hx ho
    have := ih (ld_step (hS _ hs) hx hf) (A.okB _ _ (b_step A (hS _ hs)).symm ho)
    have := (hS _ hs).dec _ hx ho hf
    omega
/-- something is left of a load behind two changes -/
def Lv (x s t : Vec) : Prop := ∃ i, s i < x i ∧ t i < x i ∧ 0 < x i
def lc (s t : Vec) : Vec := fun i => if s i ≤ t i then (if 0 ≤ t i then t i else 0) else (if 0 ≤ s i then s i else 0)
/-- what two changes of a least load are held to -/
def Hd (S : Vec → Prop) (x s t : Vec) : Prop := Jn S (sb x s) (sb x t) ∨ ∃ r, S r ∧ Fit r x ∧ Lv x s r ∧ Lv x t r
theorem Hd.mono {S S' : Vec → Prop} (m : ∀ s, S s → S' s) {x s t : Vec} (h : Hd S x s t) : Hd S' x s t := by
  rcases h with h | ⟨r, h1, h2⟩
  · exact .inl (h.mono m)
  · exact .inr ⟨r, m _ h1, h2⟩
/-- steps that are complete: each two of them, and each hamper against its goods -/
structure Full (n kinds : Nat) (Ok : Vec → Prop) (hold : Nat → Vec) (S : Vec → Prop) : Prop where
  pair : ∀ s t, S s → S t → Ok (lc s t) → (∀ i, ¬ (0 < s i ∧ 0 < t i)) ∨ (∃ i, s i < 0 ∧ t i < 0) ∨ Hd S (lc s t) s t
  seed : ∀ k, k < kinds → Ok (un k) → Hd S (un k) (fun _ => 0) (sb (un k) (hold k))
theorem ld_un {i : Nat} (h : i < n) : Ld n (un i) := ⟨fun j => by unfold un; split <;> omega, fun j hj => by unfold un; rw [if_neg (by omega)]⟩
/-- a thing in common: the rest is a lesser load -/
theorem share (A : Ax n B dg Ok mu) (d : Int) (ih : ∀ x y, Ld n x → Ld n y → B x = B y → dg x < d → Ok x → Jn S x y) {x y : Vec} (hx : Ld n x) (hy : Ld n y) (hb : B x = B y) (hd : dg x = d) (ho : Ok x) {i : Nat} (h1 : 0 < x i) (h2 : 0 < y i) : Jn S x y := by
  have hi : i < n := by
    by_cases c : i < n
    · exact c
    · have := hx.2 i (by omega)
      omega
  have ex : x = ad (sb x (un i)) (un i) := by
    funext j
    show x j = x j - un i j + un i j
    omega
  have ey : y = ad (sb y (un i)) (un i) := by
    funext j
    show y j = y j - un i j + un i j
    omega
  have lx : Ld n (sb x (un i)) := ⟨fun j => by
      show 0 ≤ x j - un i j
      unfold un
      by_cases c : j = i
      · rw [if_pos c, c]; omega
      · rw [if_neg c]; have := hx.1 j; omega, fun j hj => by
      show x j - un i j = 0
      rw [hx.2 j hj, (ld_un hi).2 j hj]
      rfl⟩
  have ly : Ld n (sb y (un i)) := ⟨fun j => by
      show 0 ≤ y j - un i j
      unfold un
      by_cases c : j = i
      · rw [if_pos c, c]; omega
      · rw [if_neg c]; have := hy.1 j; omega, fun j hj => by
      show y j - un i j = 0
      rw [hy.2 j hj, (ld_un hi).2 j hj]
      rfl⟩
  have hb' : B (sb x (un i)) = B (sb y (un i)) := by rw [A.bsub, A.bsub, hb]
  have hd' : dg (sb x (un i)) < d := by
    have := A.dadd (sb x (un i)) (un i)
    rw [← ex, hd] at this
    have := A.dpos i hi
    omega
  have ho' : Ok (sb x (un i)) := A.okd _ _ lx (ld_un hi) (by rw [← ex]; exact ho)
  obtain ⟨w, w1, w2⟩ := ih _ _ lx ly hb' hd' ho'
  refine ⟨ad w (un i), ?_, ?_⟩
  · have := w1.add (e := un i) (ld_un hi).1
    rw [← ex] at this
    exact this
  · have := w2.add (e := un i) (ld_un hi).1
    rw [← ey] at this
    exact this
/-- all ways out of a load of the fiber meet again -/
theorem confl (A : Ax n B dg Ok mu) (hS : ∀ s, S s → St n B Ok mu s) {kinds : Nat} {hold : Nat → Vec} (F : Full n kinds Ok hold S) (d : Int) (ih : ∀ x y, Ld n x → Ld n y → B x = B y → dg x < d → Ok x → Jn S x y) :
    ∀ (m : Nat) (x : Vec), mu x ≤ m → Ld n x → Ok x → dg x = d → ∀ u v, Rt S x u → Rt S x v → Jn S u v := by
  intro m
  induction m with
  | zero =>
    intro x hm hx ho hd u v hu hv
    cases hu with
    | refl => exact ⟨v, hv, .refl _⟩
    | step hs hf _ =>
      have := (hS _ hs).dec x hx ho hf
      omega
  | succ m ihm =>
    intro x hm hx ho hd u v hu hv
    cases hu with
    | refl => exact ⟨v, hv, .refl _⟩
    | @step _ _ s hs hf hu =>
      cases hv with
      | refl => exact ⟨u, .refl _, .step hs hf hu⟩
      | @step _ _ t ht hg hv =>
        have below : ∀ r, S r → Fit r x → ∀ p q, Rt S (sb x r) p → Rt S (sb x r) q → Jn S p q := fun r hr hfr p q => by
          have h1 := (hS _ hr).dec x hx ho hfr
          have eb := b_step A (x := x) (hS _ hr)
          exact ihm (sb x r) (by omega) (ld_step (hS _ hr) hx hfr) (A.okB _ _ eb.symm ho) ((A.dB _ _ eb).trans hd) p q
        have sh : ∀ r r', S r → S r' → Fit r x → Fit r' x → (∃ i, r i < x i ∧ r' i < x i) → Jn S (sb x r) (sb x r') := fun r r' hr hr' hfr hfr' ⟨i, h1, h2⟩ => by
          have eb := b_step A (x := x) (hS _ hr)
          have eb' := b_step A (x := x) (hS _ hr')
          exact share A d ih (ld_step (hS _ hr) hx hfr) (ld_step (hS _ hr') hx hfr') (eb.trans eb'.symm) ((A.dB _ _ eb).trans hd) (A.okB _ _ eb.symm ho) (i := i) (by show 0 < x i - r i; omega) (by show 0 < x i - r' i; omega)
        have local_ : Jn S (sb x s) (sb x t) := by
          by_cases c : ∃ i, s i < x i ∧ t i < x i
          · exact sh s t hs ht hf hg c
          · have ex : x = lc s t := by
              funext i
              have h1 := hf i
              have h2 := hg i
              have h3 := hx.1 i
              have h4 : ¬ (s i < x i ∧ t i < x i) := fun z => c ⟨i, z⟩
              unfold lc
              split <;> split <;> omega
            rcases F.pair s t hs ht (by rw [← ex]; exact ho) with h | ⟨i, h1, h2⟩ | h
            · -- nothing taken out in common
              refine ⟨sb (sb x s) t, .step ht (fun i => ?_) (.refl _), .step hs (fun i => ?_) ?_⟩
              · have h1 := hf i
                have h2 := hg i
                have h3 := hx.1 i
                have h4 := h i
                show t i ≤ x i - s i
                omega
              · have h1 := hf i
                have h2 := hg i
                have h3 := hx.1 i
                have h4 := h i
                show s i ≤ x i - t i
                omega
              · have e : sb (sb x t) s = sb (sb x s) t := by
                  funext i
                  show x i - t i - s i = x i - s i - t i
                  omega
                rw [e]
                exact .refl _
            · have h3 := hx.1 i
              exact sh s t hs ht hf hg ⟨i, by omega, by omega⟩
            · rw [← ex] at h
              rcases h with h | ⟨r, hr, hfr, ⟨i, a1, a2, _⟩, ⟨j, b1, b2, _⟩⟩
              · exact h
              · obtain ⟨w1, p1, p2⟩ := sh s r hs hr hf hfr ⟨i, a1, a2⟩
                obtain ⟨w2, q1, q2⟩ := sh t r ht hr hg hfr ⟨j, b1, b2⟩
                obtain ⟨w, r1, r2⟩ := below r hr hfr w1 w2 p2 q2
                exact ⟨w, p1.trans r1, q1.trans r2⟩
        obtain ⟨w, p1, p2⟩ := local_
        obtain ⟨w1, a1, a2⟩ := below s hs hf u w hu p1
        obtain ⟨w2, b1, b2⟩ := below t ht hg v w hv p2
        obtain ⟨w3, c1, c2⟩ := below s hs hf w1 w2 (p1.trans a2) (p1.trans b2)
        exact ⟨w3, a1.trans c1, b1.trans c2⟩
end
end BL
end HL

namespace HL
namespace BL
section
variable {n : Nat} {B : Vec → Vec} {dg : Vec → Int} {Ok : Vec → Prop} {mu : Vec → Nat} {S : Vec → Prop}
/-- what is known of hampers and loose goods -/
structure Hm (n kinds : Nat) (B : Vec → Vec) (hold : Nat → Vec) : Prop where
  le : kinds ≤ n
  ld : ∀ k, k < kinds → Ld n (hold k)
  no : ∀ k i, k < kinds → i < kinds → hold k i = 0
  bill : ∀ k, k < kinds → B (hold k) = B (un k)
  one : ∀ x y, Ld n x → Ld n y → (∀ i, i < kinds → x i = 0) → (∀ i, i < kinds → y i = 0) → B x = B y → x = y
def hc (kinds : Nat) (x : Vec) : Nat := ((List.range kinds).map fun i => (x i).toNat).sum
theorem sum_less {f g : Nat → Nat} : ∀ {l : List Nat}, (∀ i ∈ l, f i ≤ g i) → (∃ i ∈ l, f i < g i) → (l.map f).sum < (l.map g).sum
  | [], _, h => by obtain ⟨i, hi, _⟩ := h; cases hi
  | x :: l, h1, h2 => by
    rw [List.map_cons, List.map_cons, List.sum_cons, List.sum_cons]
    have le : ∀ {l : List Nat}, (∀ i ∈ l, f i ≤ g i) → (l.map f).sum ≤ (l.map g).sum := fun {l} => by
      induction l with
      | nil => intro _; exact Nat.le_refl _
      | cons y l ih =>
        intro h
        rw [List.map_cons, List.map_cons, List.sum_cons, List.sum_cons]
        exact Nat.add_le_add (h y List.mem_cons_self) (ih fun i hi => h i (List.mem_cons_of_mem _ hi))
    have hx := h1 x List.mem_cons_self
    have hl := le fun i hi => h1 i (List.mem_cons_of_mem _ hi)
    obtain ⟨i, hi, hlt⟩ := h2
    rcases List.mem_cons.mp hi with e | e
    · subst e; omega
    · have := sum_less (l := l) (fun i hi => h1 i (List.mem_cons_of_mem _ hi)) ⟨i, e, hlt⟩
      omega
theorem to_loose (A : Ax n B dg Ok mu) (hS : ∀ s, S s → St n B Ok mu s) {kinds : Nat} {hold : Nat → Vec} (M : Hm n kinds B hold) (F : Full n kinds Ok hold S) (d : Int) (ih : ∀ x y, Ld n x → Ld n y → B x = B y → dg x < d → Ok x → Jn S x y) :
    ∀ (c : Nat) (x : Vec), hc kinds x ≤ c → Ld n x → Ok x → dg x = d → ∃ z, Ld n z ∧ B z = B x ∧ (∀ i, i < kinds → z i = 0) ∧ Jn S x z := by
  have conf : ∀ x, Ld n x → Ok x → dg x = d → ∀ u v, Rt S x u → Rt S x v → Jn S u v := fun x hx ho hd => confl A hS F d ih (mu x) x (Nat.le_refl _) hx ho hd
  have glue : ∀ x y z, Ld n y → Ok y → dg y = d → Jn S x y → Jn S y z → Jn S x z := fun x y z hy ho hd ⟨w1, a1, a2⟩ ⟨w2, b1, b2⟩ => by
    obtain ⟨w, c1, c2⟩ := conf y hy ho hd w1 w2 a2 b1
    exact ⟨w, a1.trans c1, b2.trans c2⟩
  intro c
  induction c with
  | zero =>
    intro x hcx hx ho hd
    refine ⟨x, hx, rfl, fun i hi => ?_, x, .refl _, .refl _⟩
    by_cases z : x i = 0
    · exact z
    · have h0 := hx.1 i
      have : 0 < hc kinds x := by
        have := sum_less (f := fun _ => 0) (g := fun i => (x i).toNat) (l := List.range kinds) (fun _ _ => Nat.zero_le _) ⟨i, List.mem_range.mpr hi, by show 0 < (x i).toNat; omega⟩
        unfold hc
        omega
      omega
  | succ c ihc =>
    intro x hcx hx ho hd
    by_cases z : ∃ k, k < kinds ∧ 0 < x k
    · obtain ⟨k, hk, hkx⟩ := z
      have kn : k < n := Nat.lt_of_lt_of_le hk M.le
      by_cases rest : ∃ j, 0 < x j - un k j
      · obtain ⟨j, hj⟩ := rest
        have ly : Ld n (ad (sb x (un k)) (hold k)) := ⟨fun i => by
            have h1 := (M.ld k hk).1 i
            have h2 := hx.1 i
            show 0 ≤ x i - un k i + hold k i
            unfold un
            by_cases e : i = k
            · rw [if_pos e, e]; rw [e] at h1; omega
            · rw [if_neg e]; omega, fun i hi => by
            show x i - un k i + hold k i = 0
            rw [hx.2 i hi, (ld_un kn).2 i hi, (M.ld k hk).2 i hi]
            rfl⟩
        have eb : B (ad (sb x (un k)) (hold k)) = B x := by
          rw [A.badd, A.bsub, M.bill k hk]
          funext i
          show B x i - B (un k) i + B (un k) i = B x i
          omega
        have oy := A.okB _ _ eb.symm ho
        have dy := (A.dB _ _ eb).trans hd
        have jxy : Jn S x (ad (sb x (un k)) (hold k)) := by
          have h1 := (M.ld k hk).1 j
          have h2 : 0 ≤ un k j := (ld_un kn).1 j
          exact share A d ih hx ly eb.symm hd ho (i := j) (by omega) (by show 0 < x j - un k j + hold k j; omega)
        have hcy : hc kinds (ad (sb x (un k)) (hold k)) ≤ c := by
          have : hc kinds (ad (sb x (un k)) (hold k)) < hc kinds x := by
            refine sum_less (fun i hi => ?_) ⟨k, List.mem_range.mpr hk, ?_⟩
            · have hi := List.mem_range.mp hi
              have h1 := M.no k i hk hi
              have h2 : 0 ≤ un k i := (ld_un kn).1 i
              show (x i - un k i + hold k i).toNat ≤ (x i).toNat
              omega
            · have h1 := M.no k k hk hk
              show (x k - un k k + hold k k).toNat < (x k).toNat
              unfold un
              rw [if_pos rfl]
              omega
          omega
        obtain ⟨w, w1, w2, w3, w4⟩ := ihc _ hcy ly oy dy
        exact ⟨w, w1, w2.trans eb, w3, glue _ _ _ ly oy dy jxy w4⟩
      · have ex : x = un k := by
          funext j
          have h1 : ¬ 0 < x j - un k j := fun z => rest ⟨j, z⟩
          have h2 := hx.1 j
          by_cases e : j = k
          · subst e
            unfold un at h1 ⊢
            rw [if_pos rfl] at h1 ⊢
            omega
          · unfold un at h1 ⊢
            rw [if_neg e] at h1 ⊢
            omega
        have ek : sb (un k) (sb (un k) (hold k)) = hold k := by
          funext j
          show un k j - (un k j - hold k j) = hold k j
          omega
        have e0 : sb (un k) (fun _ => 0) = un k := by
          funext j
          show un k j - 0 = un k j
          omega
        refine ⟨hold k, M.ld k hk, by rw [ex, M.bill k hk], fun i hi => M.no k i hk hi, ?_⟩
        have okk : Ok (un k) := by rw [← ex]; exact ho
        rcases F.seed k hk okk with h | ⟨r, hr, hfr, ⟨i, a1, a2, a3⟩, ⟨j, b1, b2, b3⟩⟩
        · rw [ek, e0] at h
          rw [ex]
          exact h
        · have hfr' : Fit r x := by rw [ex]; exact hfr
          have ebr := b_step A (x := x) (hS _ hr)
          have lr := ld_step (hS _ hr) hx hfr'
          have or_ := A.okB _ _ ebr.symm ho
          have dr := (A.dB _ _ ebr).trans hd
          have j1 : Jn S x (sb x r) := share A d ih hx lr ebr.symm hd ho (i := i) (by rw [ex]; exact a3) (by show 0 < x i - r i; rw [ex]; omega)
          have j2 : Jn S (sb x r) (hold k) := share A d ih lr (M.ld k hk) (ebr.trans (by rw [ex, M.bill k hk])) dr or_ (i := j) (by show 0 < x j - r j; rw [ex]; omega) (by
            have b1' : un k j - hold k j < un k j := b1
            omega)
          exact glue _ _ _ lr or_ dr j1 j2
    · refine ⟨x, hx, rfl, fun i hi => ?_, x, .refl _, .refl _⟩
      have h1 := hx.1 i
      have h2 : ¬ 0 < x i := fun w => z ⟨i, hi, w⟩
      omega
theorem joined_all (A : Ax n B dg Ok mu) (hS : ∀ s, S s → St n B Ok mu s) {kinds : Nat} {hold : Nat → Vec} (M : Hm n kinds B hold) (F : Full n kinds Ok hold S) :
    ∀ (e : Nat) (x y : Vec), (dg x).toNat ≤ e → Ld n x → Ld n y → B x = B y → Ok x → Jn S x y := by
  intro e
  induction e using Nat.strongRecOn with
  | _ e ihe =>
    intro x y he hx hy hb ho
    have ih : ∀ u v, Ld n u → Ld n v → B u = B v → dg u < dg x → Ok u → Jn S u v := fun u v hu hv hbu hdu hou => by
      have h1 := A.dnn u hu
      have h2 := A.dnn x hx
      exact ihe (dg u).toNat (by omega) u v (Nat.le_refl _) hu hv hbu hou
    have hoy := A.okB _ _ hb ho
    have hdy := (A.dB _ _ hb).symm
    obtain ⟨z1, l1, e1, n1, w1, p1, p2⟩ := to_loose A hS M F (dg x) ih (hc kinds x) x (Nat.le_refl _) hx ho rfl
    obtain ⟨z2, l2, e2, n2, w2, q1, q2⟩ := to_loose A hS M F (dg x) ih (hc kinds y) y (Nat.le_refl _) hy hoy hdy
    have ez : z1 = z2 := M.one z1 z2 l1 l2 n1 n2 (by rw [e1, e2, hb])
    subst ez
    have oz := A.okB _ _ e1.symm ho
    have dz := A.dB _ _ e1
    obtain ⟨w, r1, r2⟩ := confl A hS F (dg x) ih (mu z1) z1 (Nat.le_refl _) l1 oz dz w1 w2 p2 q2
    exact ⟨w, p1.trans r1, q1.trans r2⟩
/-- a load that no step fits is the best of its bill -/
theorem best_of (A : Ax n B dg Ok mu) (hS : ∀ s, S s → St n B Ok mu s) {kinds : Nat} {hold : Nat → Vec} (M : Hm n kinds B hold) (F : Full n kinds Ok hold S) {x y : Vec} (hx : Ld n x) (ho : Ok x) (irr : ∀ s, S s → ¬ Fit s x) (hy : Ld n y) (hb : B y = B x) : mu x ≤ mu y := by
  obtain ⟨w, p, q⟩ := joined_all A hS M F _ x y (Nat.le_refl _) hx hy hb.symm ho
  cases p with
  | refl => exact rt_mu A hS q hy (A.okB _ _ hb.symm ho)
  | step hs hf _ => exact absurd hf (irr _ hs)
end
end BL
end HL

namespace HL
namespace BL
/-! loads of a lot: bills, ranks -/
def vec (r : List Int) : Vec := fun i => r.getD i 0
def sm : Nat → Vec → Int
  | 0, _ => 0
  | g + 1, f => sm g f + f g
def sh (x : Vec) : Vec := fun i => x (i + 1)
def Lb : List (List Int) → Vec → Nat → Int
  | [], _, _ => 0
  | h :: t, x, j => x 0 * h.getD j 0 + Lb t (sh x) j
def Bv (ll : List (List Int)) (g : Nat) (x : Vec) : Vec := fun j => if j < g then Lb ll x j + x (ll.length + j) else 0
def dgv (ll : List (List Int)) (g : Nat) (x : Vec) : Int := sm g (Bv ll g x)
def Okv (ll : List (List Int)) (g : Nat) (b : Vec) (x : Vec) : Prop := ∀ j, Bv ll g x j ≤ b j
theorem sm_add : ∀ {g : Nat} {x y : Vec}, sm g (ad x y) = sm g x + sm g y
  | 0, _, _ => rfl
  | g + 1, x, y => by
    show sm g (ad x y) + (x g + y g) = (sm g x + x g) + (sm g y + y g)
    rw [sm_add]
    omega
theorem sm_sub : ∀ {g : Nat} {x y : Vec}, sm g (sb x y) = sm g x - sm g y
  | 0, _, _ => rfl
  | g + 1, x, y => by
    show sm g (sb x y) + (x g - y g) = (sm g x + x g) - (sm g y + y g)
    rw [sm_sub]
    omega
theorem sm_le : ∀ {g : Nat} {x y : Vec}, (∀ i, i < g → x i ≤ y i) → sm g x ≤ sm g y
  | 0, _, _, _ => Int.le_refl _
  | g + 1, x, y, h => by
    have h1 := sm_le (g := g) fun i hi => h i (by omega)
    have h2 := h g (by omega)
    show sm g x + x g ≤ sm g y + y g
    omega
theorem sm_zero : ∀ {g : Nat}, sm g (fun _ => 0) = 0
  | 0 => rfl
  | g + 1 => by
    show sm g (fun _ => 0) + 0 = 0
    rw [sm_zero]
    rfl
theorem sm_nn {g : Nat} {x : Vec} (h : ∀ i, i < g → 0 ≤ x i) : 0 ≤ sm g x := by
  have := sm_le (g := g) (x := fun _ => 0) (y := x) h
  rw [sm_zero] at this
  exact this
theorem sm_one : ∀ {g : Nat} {x : Vec} {i : Nat}, (∀ i, i < g → 0 ≤ x i) → i < g → x i ≤ sm g x
  | 0, _, _, _, h => absurd h (Nat.not_lt_zero _)
  | g + 1, x, i, h, hi => by
    show x i ≤ sm g x + x g
    by_cases c : i = g
    · have := sm_nn (g := g) fun i hi => h i (by omega)
      rw [c]
      omega
    · have := sm_one (g := g) (i := i) (fun i hi => h i (by omega)) (by omega)
      have := h g (by omega)
      omega
theorem sm_sh : ∀ {g : Nat} {x : Vec}, sm (g + 1) x = x 0 + sm g (sh x)
  | 0, x => by
    show 0 + x 0 = x 0 + 0
    omega
  | g + 1, x => by
    show sm (g + 1) x + x (g + 1) = x 0 + (sm g (sh x) + x (g + 1))
    rw [sm_sh]
    omega
theorem sm_split : ∀ {g k : Nat} {x : Vec}, sm (k + g) x = sm k x + sm g (fun j => x (k + j))
  | 0, k, x => by
    show sm k x = sm k x + 0
    omega
  | g + 1, k, x => by
    show sm (k + g) x + x (k + g) = sm k x + (sm g (fun j => x (k + j)) + x (k + g))
    rw [sm_split]
    omega
theorem sm_congr {g : Nat} {x y : Vec} (h : ∀ i, i < g → x i = y i) : sm g x = sm g y :=
  Int.le_antisymm (sm_le fun i hi => Int.le_of_eq (h i hi)) (sm_le fun i hi => Int.le_of_eq (h i hi).symm)
theorem sm_mul {g : Nat} {x : Vec} {c : Int} : sm g (fun i => c * x i) = c * sm g x := by
  induction g with
  | zero => show 0 = c * 0; omega
  | succ g ih =>
    show sm g (fun i => c * x i) + c * x g = c * (sm g x + x g)
    rw [ih, Int.mul_add]
theorem Lb_add : ∀ {ll : List (List Int)} {x y : Vec} {j : Nat}, Lb ll (ad x y) j = Lb ll x j + Lb ll y j
  | [], _, _, _ => rfl
  | h :: t, x, y, j => by
    show (x 0 + y 0) * h.getD j 0 + Lb t (ad (sh x) (sh y)) j = (x 0 * h.getD j 0 + Lb t (sh x) j) + (y 0 * h.getD j 0 + Lb t (sh y) j)
    rw [Lb_add, Int.add_mul]
    omega
theorem Lb_sub : ∀ {ll : List (List Int)} {x y : Vec} {j : Nat}, Lb ll (sb x y) j = Lb ll x j - Lb ll y j
  | [], _, _, _ => rfl
  | h :: t, x, y, j => by
    show (x 0 - y 0) * h.getD j 0 + Lb t (sb (sh x) (sh y)) j = (x 0 * h.getD j 0 + Lb t (sh x) j) - (y 0 * h.getD j 0 + Lb t (sh y) j)
    rw [Lb_sub, Int.sub_mul]
    omega
theorem getD_nn {h : List Int} (n : ∀ z ∈ h, 0 ≤ z) (j : Nat) : 0 ≤ h.getD j 0 := by
  rw [List.getD_eq_getElem?_getD]
  cases e : h[j]? with
  | none => exact Int.le_refl _
  | some z => exact n z (List.mem_of_getElem? e)
theorem Lb_nn : ∀ {ll : List (List Int)} {x : Vec} {j : Nat}, (∀ h ∈ ll, ∀ z ∈ h, 0 ≤ z) → (∀ i, 0 ≤ x i) → 0 ≤ Lb ll x j
  | [], _, _, _, _ => Int.le_refl _
  | h :: t, x, j, hn, hx => by
    have h1 := Lb_nn (ll := t) (x := sh x) (j := j) (fun q hq => hn q (List.mem_cons_of_mem _ hq)) (fun i => hx (i + 1))
    have h2 := Int.mul_nonneg (hx 0) (getD_nn (hn h List.mem_cons_self) j)
    show 0 ≤ x 0 * h.getD j 0 + Lb t (sh x) j
    omega
theorem Lb_zero : ∀ {ll : List (List Int)} {x : Vec} {j : Nat}, (∀ i, i < ll.length → x i = 0) → Lb ll x j = 0
  | [], _, _, _ => rfl
  | h :: t, x, j, hx => by
    show x 0 * h.getD j 0 + Lb t (sh x) j = 0
    rw [hx 0 (by simp), Lb_zero (ll := t) (x := sh x) fun i hi => hx (i + 1) (by simpa using hi)]
    omega
theorem sh_un {i : Nat} : sh (un (i + 1)) = un i := by
  funext j
  show (if j + 1 = i + 1 then (1 : Int) else 0) = if j = i then 1 else 0
  by_cases c : j = i
  · rw [if_pos c, if_pos (by omega)]
  · rw [if_neg c, if_neg (by omega)]
theorem Lb_un : ∀ {ll : List (List Int)} {i j : Nat}, i < ll.length → Lb ll (un i) j = (ll.getD i []).getD j 0
  | [], _, _, h => absurd h (Nat.not_lt_zero _)
  | h :: t, 0, j, _ => by
    show un 0 0 * h.getD j 0 + Lb t (sh (un 0)) j = h.getD j 0
    rw [Lb_zero (ll := t) (fun i _ => by show (if i + 1 = 0 then (1 : Int) else 0) = 0; rw [if_neg (by omega)])]
    show (1 : Int) * h.getD j 0 + 0 = h.getD j 0
    omega
  | h :: t, i + 1, j, hi => by
    show un (i + 1) 0 * h.getD j 0 + Lb t (sh (un (i + 1))) j = (t.getD i []).getD j 0
    rw [sh_un, Lb_un (by simpa using hi)]
    show (0 : Int) * h.getD j 0 + _ = _
    omega
/-- what is asked of a lot here -/
def Lot (g : Nat) (ll : List (List Int)) : Prop := ∀ h ∈ ll, Kd g h
theorem sm_getD : ∀ {g : Nat} {h : List Int}, h.length = g → sm g (fun j => h.getD j 0) = h.sum := by
  intro g
  induction g with
  | zero => intro h e; rw [List.length_eq_zero_iff.mp e]; rfl
  | succ g ih =>
    intro h e
    cases h with
    | nil => simp at e
    | cons x h =>
      rw [sm_sh, List.sum_cons]
      have : sm g (sh fun j => (x :: h).getD j 0) = h.sum := ih (h := h) (by simpa using e)
      rw [this]
      rfl
theorem kd_sum {g : Nat} {h : List Int} (k : Kd g h) : 1 ≤ sm g (fun j => h.getD j 0) := by
  obtain ⟨h1, h2, n, hn, h3⟩ := k
  obtain ⟨j, hj, e⟩ := List.mem_iff_getElem.mp hn
  have := sm_one (g := g) (x := fun j => h.getD j 0) (i := j) (fun i _ => getD_nn h2 i) (by omega)
  have e2 : h.getD j 0 = n := by
    rw [List.getD_eq_getElem?_getD, List.getElem?_eq_getElem hj, e]
    rfl
  rw [e2] at this
  omega
theorem sm_Lb : ∀ {ll : List (List Int)} {g : Nat} {x : Vec}, Lot g ll → (∀ i, 0 ≤ x i) → sm ll.length x ≤ sm g (Lb ll x)
  | [], g, x, _, _ => by
    have : sm g (Lb [] x) = 0 := sm_zero
    rw [this]
    exact Int.le_refl _
  | h :: t, g, x, L, hx => by
    have h1 := sm_Lb (ll := t) (g := g) (x := sh x) (fun q hq => L q (List.mem_cons_of_mem _ hq)) (fun i => hx (i + 1))
    have e : Lb (h :: t) x = ad (fun j => x 0 * h.getD j 0) (Lb t (sh x)) := rfl
    rw [e, sm_add, sm_mul, List.length_cons, sm_sh]
    have h2 := kd_sum (L h List.mem_cons_self)
    have h3 := Int.mul_le_mul_of_nonneg_left h2 (hx 0)
    omega
theorem dgv_eq {ll : List (List Int)} {g : Nat} {x : Vec} : dgv ll g x = sm g (Lb ll x) + sm g (fun j => x (ll.length + j)) := by
  unfold dgv
  rw [← sm_add]
  exact sm_congr fun j hj => by
    unfold Bv
    rw [if_pos hj]
    rfl
theorem sm_dg {ll : List (List Int)} {g : Nat} {x : Vec} (L : Lot g ll) (hx : ∀ i, 0 ≤ x i) : sm (ll.length + g) x ≤ dgv ll g x := by
  rw [dgv_eq, sm_split]
  have := sm_Lb L hx
  omega
theorem Bv_nn {ll : List (List Int)} {g : Nat} {x : Vec} (L : Lot g ll) (hx : ∀ i, 0 ≤ x i) (j : Nat) : 0 ≤ Bv ll g x j := by
  unfold Bv
  split
  · have := Lb_nn (ll := ll) (x := x) (j := j) (fun h hh => (L h hh).2.1) hx
    have := hx (ll.length + j)
    omega
  · exact Int.le_refl _
theorem Bv_add {ll : List (List Int)} {g : Nat} (x y : Vec) : Bv ll g (ad x y) = ad (Bv ll g x) (Bv ll g y) := by
  funext j
  show Bv ll g (ad x y) j = Bv ll g x j + Bv ll g y j
  unfold Bv
  by_cases c : j < g
  · rw [if_pos c, if_pos c, if_pos c, Lb_add]
    show _ + (x (ll.length + j) + y (ll.length + j)) = _
    omega
  · rw [if_neg c, if_neg c, if_neg c]
    rfl
theorem Bv_sub {ll : List (List Int)} {g : Nat} (x y : Vec) : Bv ll g (sb x y) = sb (Bv ll g x) (Bv ll g y) := by
  funext j
  show Bv ll g (sb x y) j = Bv ll g x j - Bv ll g y j
  unfold Bv
  by_cases c : j < g
  · rw [if_pos c, if_pos c, if_pos c, Lb_sub]
    show _ + (x (ll.length + j) - y (ll.length + j)) = _
    omega
  · rw [if_neg c, if_neg c, if_neg c]
    rfl
theorem dgv_add {ll : List (List Int)} {g : Nat} (x y : Vec) : dgv ll g (ad x y) = dgv ll g x + dgv ll g y := by
  unfold dgv
  rw [Bv_add, sm_add]
theorem ax {ll : List (List Int)} {g : Nat} {b : Vec} {mu : Vec → Nat} (L : Lot g ll) : Ax (ll.length + g) (Bv ll g) (dgv ll g) (Okv ll g b) mu where
  badd := Bv_add
  bsub := Bv_sub
  dB x y h := by unfold dgv; rw [h]
  dadd := dgv_add
  dnn x hx := sm_nn fun j _ => Bv_nn L hx.1 j
  dpos i hi := by
    have h1 := sm_dg (g := g) L (x := un i) (ld_un hi).1
    have h2 := sm_one (g := ll.length + g) (x := un i) (i := i) (fun j _ => (ld_un hi).1 j) hi
    have h3 : un i i = 1 := by unfold un; rw [if_pos rfl]
    omega
  okB x y h o j := by
    have := o j
    rw [h] at this
    exact this
  okd x y hx hy o j := by
    have h1 := o j
    have h2 := Bv_nn (g := g) L hy.1 j
    rw [Bv_add] at h1
    have h3 : Bv ll g x j + Bv ll g y j ≤ b j := h1
    omega
def holdv (ll : List (List Int)) (k : Nat) : Vec := fun i => if i < ll.length then 0 else (ll.getD k []).getD (i - ll.length) 0
theorem hold_len {ll : List (List Int)} {g k : Nat} (L : Lot g ll) (hk : k < ll.length) : Kd g (ll.getD k []) := by
  have e : ll.getD k [] = ll[k] := by rw [List.getD_eq_getElem?_getD, List.getElem?_eq_getElem hk]; rfl
  rw [e]
  exact L _ (List.getElem_mem hk)
theorem hm {ll : List (List Int)} {g : Nat} (L : Lot g ll) : Hm (ll.length + g) ll.length (Bv ll g) (holdv ll) where
  le := by omega
  ld k hk := by
    have K := hold_len L hk
    refine ⟨fun i => ?_, fun i hi => ?_⟩
    · unfold holdv
      split
      · exact Int.le_refl _
      · exact getD_nn K.2.1 _
    · unfold holdv
      rw [if_neg (by omega), List.getD_eq_getElem?_getD, List.getElem?_eq_none (by rw [K.1]; omega)]
      rfl
  no k i hk hi := by
    unfold holdv
    rw [if_pos hi]
  bill k hk := by
    funext j
    unfold Bv
    by_cases c : j < g
    · rw [if_pos c, if_pos c, Lb_zero (x := holdv ll k) fun i hi => by unfold holdv; rw [if_pos hi], Lb_un hk]
      have e1 : holdv ll k (ll.length + j) = (ll.getD k []).getD j 0 := by
        unfold holdv
        rw [if_neg (by omega), Nat.add_sub_cancel_left]
      have e2 : un k (ll.length + j) = 0 := by
        unfold un
        rw [if_neg (by omega)]
      rw [e1, e2]
      omega
    · rw [if_neg c, if_neg c]
  one x y hx hy nx ny e := by
    funext i
    by_cases c1 : i < ll.length
    · rw [nx i c1, ny i c1]
    · by_cases c2 : i < ll.length + g
      · have h1 := congrFun e (i - ll.length)
        unfold Bv at h1
        rw [if_pos (by omega), if_pos (by omega), Lb_zero nx, Lb_zero ny, show ll.length + (i - ll.length) = i by omega] at h1
        omega
      · rw [hx.2 i (by omega), hy.2 i (by omega)]
/-! ranks -/
/-- what a load is judged by, in order: loose goods, its worth, each loose good, each count -/
def rkv (k g : Nat) (w x : Vec) : List Int := sm g (fun j => x (k + j)) :: sm k (fun i => w i * x i) :: ((List.range g).map (fun j => x (k + j)) ++ (List.range k).map x)
theorem rkv_len {k g : Nat} {w x : Vec} : (rkv k g w x).length = g + k + 2 := by
  unfold rkv
  simp
theorem subR_map {α : Type} {l : List α} {f h : α → Int} : subR (l.map f) (l.map h) 1 = l.map fun i => f i - h i := by
  induction l with
  | nil => rfl
  | cons a l ih =>
    rw [List.map_cons, List.map_cons, subR_cons, ih, List.map_cons, Int.one_mul]
theorem subR_app : ∀ {a b c d : List Int}, a.length = c.length → subR (a ++ b) (c ++ d) 1 = subR a c 1 ++ subR b d 1
  | [], b, [], d, _ => rfl
  | x :: a, b, y :: c, d, e => by
    rw [List.cons_append, List.cons_append, subR_cons, subR_app (by simpa using e), subR_cons]
    rfl
  | [], _, _ :: _, _, e => by simp at e
  | _ :: _, _, [], _, e => by simp at e
theorem rkv_sub {k g : Nat} {w x s : Vec} : rkv k g w (sb x s) = subR (rkv k g w x) (rkv k g w s) 1 := by
  unfold rkv
  rw [subR_cons, subR_cons, subR_app (by simp), subR_map, subR_map, Int.one_mul, Int.one_mul]
  have e1 : sm g (fun j => sb x s (k + j)) = sm g (fun j => x (k + j)) - sm g (fun j => s (k + j)) := sm_sub (x := fun j => x (k + j)) (y := fun j => s (k + j))
  have e2 : sm k (fun i => w i * sb x s i) = sm k (fun i => w i * x i) - sm k (fun i => w i * s i) := by
    rw [← sm_sub]
    exact sm_congr fun i _ => by
      show w i * (x i - s i) = w i * x i - w i * s i
      rw [Int.mul_sub]
  rw [e1, e2]
  rfl
/-- the first that isn't nought is above it -/
def FP : List Int → Prop
  | [] => False
  | x :: r => 0 < x ∨ (x = 0 ∧ FP r)
theorem lx_sub : ∀ {a d : List Int}, a.length = d.length → FP d → lx (subR a d 1) a
  | [], [], _, h => h
  | x :: a, y :: d, e, h => by
    rw [subR_cons]
    rcases h with h | ⟨h, h'⟩
    · exact .inl (by omega)
    · exact .inr ⟨by omega, lx_sub (by simpa using e) h'⟩
  | [], _ :: _, e, _ => by simp at e
  | _ :: _, [], e, _ => by simp at e
def cd (C : Nat) : List Int → Nat
  | [] => 0
  | x :: r => (x + C).toNat * (2 * C + 1) ^ r.length + cd C r
def Bdd (C : Nat) (r : List Int) : Prop := ∀ z ∈ r, -(C : Int) ≤ z ∧ z ≤ C
theorem cd_lt {C : Nat} : ∀ {r : List Int}, Bdd C r → cd C r < (2 * C + 1) ^ r.length
  | [], _ => by show 0 < 1; decide
  | x :: r, h => by
    have h1 := cd_lt (r := r) fun z hz => h z (List.mem_cons_of_mem _ hz)
    have h2 := h x List.mem_cons_self
    have h3 : (x + C).toNat ≤ 2 * C := by omega
    have h4 := Nat.mul_le_mul_right ((2 * C + 1) ^ r.length) h3
    show (x + C).toNat * (2 * C + 1) ^ r.length + cd C r < (2 * C + 1) ^ (r.length + 1)
    rw [Nat.pow_succ, Nat.mul_comm _ (2 * C + 1), Nat.add_mul]
    omega
theorem cd_lx {C : Nat} : ∀ {r s : List Int}, r.length = s.length → Bdd C r → Bdd C s → lx r s → cd C r < cd C s
  | [], [], _, _, _, h => h.elim
  | [], _ :: _, _, _, _, h => h.elim
  | _ :: _, [], _, _, _, h => h.elim
  | x :: r, y :: s, e, hr, hs, h => by
    have e' : r.length = s.length := by simpa using e
    have hr' : Bdd C r := fun z hz => hr z (List.mem_cons_of_mem _ hz)
    have hs' : Bdd C s := fun z hz => hs z (List.mem_cons_of_mem _ hz)
    show (x + C).toNat * (2 * C + 1) ^ r.length + cd C r < (y + C).toNat * (2 * C + 1) ^ s.length + cd C s
    rw [← e']
    rcases h with h | ⟨h, h'⟩
    · have h1 := hr x List.mem_cons_self
      have h2 : (x + C).toNat + 1 ≤ (y + C).toNat := by omega
      have h3 := Nat.mul_le_mul_right ((2 * C + 1) ^ r.length) h2
      have h4 := cd_lt hr'
      rw [Nat.add_mul] at h3
      omega
    · have := cd_lx e' hr' hs' h'
      rw [h]
      omega
/-- one of two rows is ahead, or they are the same -/
theorem lx_tri : ∀ {r s : List Int}, r.length = s.length → lx r s ∨ r = s ∨ lx s r
  | [], [], _ => .inr (.inl rfl)
  | x :: r, y :: s, e => by
    by_cases c : x < y
    · exact .inl (.inl c)
    by_cases c2 : y < x
    · exact .inr (.inr (.inl c2))
    have ex : x = y := by omega
    subst ex
    rcases lx_tri (r := r) (s := s) (by simpa using e) with h | h | h
    · exact .inl (.inr ⟨rfl, h⟩)
    · exact .inr (.inl (by rw [h]))
    · exact .inr (.inr (.inr ⟨rfl, h⟩))
  | [], _ :: _, e => by simp at e
  | _ :: _, [], e => by simp at e
theorem map_range_inj {g : Nat} {f h : Nat → Int} (e : (List.range g).map f = (List.range g).map h) : ∀ j, j < g → f j = h j := fun j hj => by
  have := congrArg (fun l => l[j]?) e
  simp only [List.getElem?_map] at this
  rw [List.getElem?_range hj] at this
  exact Option.some.inj this
theorem rkv_inj {k g : Nat} {w x y : Vec} (hx : Ld (k + g) x) (hy : Ld (k + g) y) (e : rkv k g w x = rkv k g w y) : x = y := by
  unfold rkv at e
  have e1 := (List.cons.inj (List.cons.inj e).2).2
  obtain ⟨e2, e3⟩ := List.append_inj e1 (by simp)
  funext i
  by_cases c1 : i < k
  · exact map_range_inj e3 i c1
  · by_cases c2 : i < k + g
    · have := map_range_inj e2 (i - k) (by omega)
      rw [show k + (i - k) = i by omega] at this
      exact this
    · rw [hx.2 i (by omega), hy.2 i (by omega)]
theorem sm_dot {k : Nat} {w x : Vec} (hw : ∀ i, -99 ≤ w i ∧ w i ≤ 99) (hx : ∀ i, 0 ≤ x i) : -(99 * sm k x) ≤ sm k (fun i => w i * x i) ∧ sm k (fun i => w i * x i) ≤ 99 * sm k x := by
  constructor
  · have e : sm k (fun i => -99 * x i) = -99 * sm k x := sm_mul
    have := sm_le (g := k) (x := fun i => -99 * x i) (y := fun i => w i * x i) fun i _ => Int.mul_le_mul_of_nonneg_right (hw i).1 (hx i)
    omega
  · have e : sm k (fun i => 99 * x i) = 99 * sm k x := sm_mul
    have := sm_le (g := k) (x := fun i => w i * x i) (y := fun i => 99 * x i) fun i _ => Int.mul_le_mul_of_nonneg_right (hw i).2 (hx i)
    omega
/-- what the whole asks: the lot, the bound, the wish -/
structure Sit (ll : List (List Int)) (g : Nat) (b w : Vec) : Prop where
  lot : Lot g ll
  wish : ∀ i, -99 ≤ w i ∧ w i ≤ 99
  few : sm g b ≤ 100000000000000000000000000000000000000
  nn : ∀ j, 0 ≤ b j
theorem ld_sum {ll : List (List Int)} {g : Nat} {b w x : Vec} (Z : Sit ll g b w) (hx : Ld (ll.length + g) x) (ho : Okv ll g b x) : sm (ll.length + g) x ≤ sm g b := by
  have h1 := sm_dg (g := g) Z.lot hx.1
  have h2 : dgv ll g x ≤ sm g b := sm_le fun j _ => ho j
  omega
theorem rk_bdd {ll : List (List Int)} {g : Nat} {b w x : Vec} (Z : Sit ll g b w) (hx : Ld (ll.length + g) x) (ho : Okv ll g b x) : Bdd 100000000000000000000000000000000000000000 (rkv ll.length g w x) := by
  have h1 := ld_sum Z hx ho
  have h2 := Z.few
  rw [sm_split] at h1
  have n1 : 0 ≤ sm ll.length x := sm_nn fun i _ => hx.1 i
  have n2 : 0 ≤ sm g (fun j => x (ll.length + j)) := sm_nn fun i _ => hx.1 _
  have h3 := sm_dot (k := ll.length) Z.wish hx.1
  intro z hz
  unfold rkv at hz
  rcases List.mem_cons.mp hz with e | hz
  · omega
  rcases List.mem_cons.mp hz with e | hz
  · omega
  rcases List.mem_append.mp hz with hz | hz
  · obtain ⟨j, hj, e⟩ := List.mem_map.mp hz
    have := sm_one (g := g) (x := fun j => x (ll.length + j)) (i := j) (fun i _ => hx.1 _) (List.mem_range.mp hj)
    have := hx.1 (ll.length + j)
    omega
  · obtain ⟨j, hj, e⟩ := List.mem_map.mp hz
    have := sm_one (g := ll.length) (x := x) (i := j) (fun i _ => hx.1 _) (List.mem_range.mp hj)
    have := hx.1 j
    omega
def muv (ll : List (List Int)) (g : Nat) (w x : Vec) : Nat := cd 100000000000000000000000000000000000000000 (rkv ll.length g w x)
/-- a change that no good feels and that is the worse first is a step -/
theorem st_of {ll : List (List Int)} {g : Nat} {b w s : Vec} (Z : Sit ll g b w) (ker : ∀ i, Bv ll g s i = 0) (sup : ∀ i, ll.length + g ≤ i → s i = 0) (fp : FP (rkv ll.length g w s)) : St (ll.length + g) (Bv ll g) (Okv ll g b) (muv ll g w) s where
  ker := ker
  sup := sup
  dec x hx ho hf := by
    have l1 : Ld (ll.length + g) (sb x s) := ⟨fun i => by have := hf i; show 0 ≤ x i - s i; omega, fun i hi => by show x i - s i = 0; rw [hx.2 i hi, sup i hi]; rfl⟩
    have o1 : Okv ll g b (sb x s) := fun j => by
      rw [Bv_sub]
      show Bv ll g x j - Bv ll g s j ≤ b j
      rw [ker j]
      have := ho j
      omega
    have e := rk_bdd Z l1 o1
    unfold muv
    refine cd_lx (by rw [rkv_len, rkv_len]) e (rk_bdd Z hx ho) ?_
    rw [rkv_sub]
    exact lx_sub (by rw [rkv_len, rkv_len]) fp
/-- the best by mu is ahead by ranks -/
theorem rk_of_mu {ll : List (List Int)} {g : Nat} {b w x y : Vec} (Z : Sit ll g b w) (hx : Ld (ll.length + g) x) (ox : Okv ll g b x) (hy : Ld (ll.length + g) y) (oy : Okv ll g b y) (h : muv ll g w x ≤ muv ll g w y) : ¬ lx (rkv ll.length g w y) (rkv ll.length g w x) := fun z => by
  have := cd_lx (by rw [rkv_len, rkv_len]) (rk_bdd Z hy oy) (rk_bdd Z hx ox) z
  unfold muv at h
  omega
end BL
end HL

namespace HL
namespace BL
/-! rows as loads and steps -/
def abv (r : List Int) : List Int := r.map fun n => if n < 0 then 0 else n
def ngR (r : List Int) : List Int := r.map fun n => -n
def askLi (s : List Int) (i : Nat) : List (List Int) := ((List.range i).filter fun j => decide (0 < s.getD j 0)).map fun (j : Nat) => [(j : Int), s.getD j 0]
def askL (s : List Int) : List (List Int) := askLi s s.length
def fitB (x : List Int) (aa : List (List Int)) : Bool := aa.all fun a => decide (a.getD 1 0 ≤ x.getD (a.getD 0 0).toNat 0)
theorem askLi_more {s : List Int} {i : Nat} : askLi s (i + 1) = askLi s i ++ if 0 < s.getD i 0 then [[(i : Int), s.getD i 0]] else [] := by
  unfold askLi
  rw [List.range_succ, List.filter_append, List.map_append]
  by_cases c : 0 < s.getD i 0
  · rw [if_pos c, List.filter_cons, if_pos (decide_eq_true c)]
    rfl
  · rw [if_neg c, List.filter_cons, if_neg (fun z => c (of_decide_eq_true z))]
    rfl
theorem askLi_len {s : List Int} {i : Nat} : (askLi s i).length ≤ i := by
  unfold askLi
  rw [List.length_map]
  exact Nat.le_trans (List.length_filter_le _ _) (by rw [List.length_range]; exact Nat.le_refl _)
theorem askL_mem {s a : List Int} : a ∈ askL s ↔ ∃ j, j < s.length ∧ 0 < s.getD j 0 ∧ a = [(j : Int), s.getD j 0] := by
  unfold askL askLi
  constructor
  · intro h
    obtain ⟨j, hj, e⟩ := List.mem_map.mp h
    obtain ⟨h1, h2⟩ := List.mem_filter.mp hj
    exact ⟨j, List.mem_range.mp h1, of_decide_eq_true h2, e.symm⟩
  · rintro ⟨j, h1, h2, e⟩
    exact List.mem_map.mpr ⟨j, List.mem_filter.mpr ⟨List.mem_range.mpr h1, decide_eq_true h2⟩, e.symm⟩
theorem fitB_iff {x s : List Int} : fitB x (askL s) = true ↔ ∀ j, j < s.length → 0 < s.getD j 0 → s.getD j 0 ≤ x.getD j 0 := by
  unfold fitB
  rw [List.all_eq_true]
  constructor
  · intro h j h1 h2
    exact of_decide_eq_true (h _ (askL_mem.mpr ⟨j, h1, h2, rfl⟩))
  · intro h a ha
    obtain ⟨j, h1, h2, rfl⟩ := askL_mem.mp ha
    exact decide_eq_true (h j h1 h2)
theorem vec_out {r : List Int} {i : Nat} (h : r.length ≤ i) : vec r i = 0 := by
  unfold vec
  rw [List.getD_eq_getElem?_getD, List.getElem?_eq_none h]
  rfl
theorem vec_sub : ∀ {r s : List Int} {k : Int}, r.length = s.length → vec (subR r s k) = fun i => vec r i - k * vec s i
  | [], [], k, _ => by
    funext i
    show ([] : List Int).getD i 0 = ([] : List Int).getD i 0 - k * ([] : List Int).getD i 0
    simp
  | x :: r, y :: s, k, e => by
    funext i
    rw [subR_cons]
    cases i with
    | zero => rfl
    | succ i => exact congrFun (vec_sub (r := r) (s := s) (k := k) (by simpa using e)) i
  | [], _ :: _, _, e => by simp at e
  | _ :: _, [], _, e => by simp at e
theorem vec_sub1 {r s : List Int} (e : r.length = s.length) : vec (subR r s 1) = sb (vec r) (vec s) := by
  rw [vec_sub e]
  funext i
  show vec r i - 1 * vec s i = vec r i - vec s i
  omega
theorem vec_ng {s : List Int} : vec (ngR s) = fun i => - vec s i := by
  funext i
  unfold vec ngR
  rw [List.getD_eq_getElem?_getD, List.getD_eq_getElem?_getD, List.getElem?_map]
  cases s[i]? <;> rfl
theorem vec_abv {s : List Int} : vec (abv s) = fun i => if vec s i < 0 then 0 else vec s i := by
  funext i
  unfold vec abv
  rw [List.getD_eq_getElem?_getD, List.getD_eq_getElem?_getD, List.getElem?_map]
  cases s[i]? <;> rfl
theorem vec_inj {r s : List Int} (e : r.length = s.length) (h : vec r = vec s) : r = s := by
  refine List.ext_getElem? fun i => ?_
  by_cases c : i < r.length
  · have := congrFun h i
    unfold vec at this
    rw [List.getD_eq_getElem?_getD, List.getD_eq_getElem?_getD, List.getElem?_eq_getElem c, List.getElem?_eq_getElem (by omega)] at this
    rw [List.getElem?_eq_getElem c, List.getElem?_eq_getElem (by omega)]
    exact congrArg some this
  · rw [List.getElem?_eq_none (by omega), List.getElem?_eq_none (by omega)]
section
variable {ll : List (List Int)} {b ws : List Int}
/-- a load within the bound -/
structure RowOk (ll : List (List Int)) (b r : List Int) : Prop where
  len : r.length = ll.length + b.length
  ld : Ld (ll.length + b.length) (vec r)
  ok : Okv ll b.length (vec b) (vec r)
structure StR (ll : List (List Int)) (b ws s : List Int) : Prop where
  len : s.length = ll.length + b.length
  sml : ∀ z ∈ s, -1000000 ≤ z ∧ z ≤ 1000000
  st : St (ll.length + b.length) (Bv ll b.length) (Okv ll b.length (vec b)) (muv ll b.length (vec ws)) (vec s)
  ndy : ∀ a, Ld (ll.length + b.length) a → Fit a (vec (abv s)) → dgv ll b.length a < dgv ll b.length (vec (abv s)) → ∀ y, Ld (ll.length + b.length) y → Bv ll b.length y = Bv ll b.length a → muv ll b.length (vec ws) a ≤ muv ll b.length (vec ws) y
def inS (ss : List (List Int)) : Vec → Prop := fun v => ∃ s ∈ ss, v = vec s
abbrev St1 (ll : List (List Int)) (b ws : List Int) : Prop := Sit ll b.length (vec b) (vec ws)
theorem RowOk.le (Z : St1 ll b ws) {r : List Int} (h : RowOk ll b r) (i : Nat) : 0 ≤ vec r i ∧ vec r i ≤ 100000000000000000000000000000000000000 := by
  refine ⟨h.ld.1 i, ?_⟩
  by_cases c : i < ll.length + b.length
  · have h1 := ld_sum Z h.ld h.ok
    have h2 := Z.few
    have h3 := sm_one (g := ll.length + b.length) (x := vec r) (i := i) (fun i _ => h.ld.1 i) c
    omega
  · rw [h.ld.2 i (by omega)]
    decide
theorem fit_iff {x s : List Int} (hx : RowOk ll b x) (hs : s.length = ll.length + b.length) : fitB x (askL s) = true ↔ Fit (vec s) (vec x) := by
  rw [fitB_iff]
  constructor
  · intro h i
    by_cases c : i < s.length
    · by_cases c2 : 0 < s.getD i 0
      · exact h i c c2
      · have := hx.ld.1 i
        show s.getD i 0 ≤ vec x i
        omega
    · rw [vec_out (by omega)]
      exact hx.ld.1 i
  · intro h j _ _
    exact h j
/-- something is taken out by a step -/
theorem step_pos (Z : St1 ll b ws) {s : List Int} (h : StR ll b ws s) : ∃ j, j < s.length ∧ 0 < s.getD j 0 := by
  by_cases c : ∃ j, j < s.length ∧ 0 < s.getD j 0
  · exact c
  · exfalso
    have A := ax (b := vec b) (mu := muv ll b.length (vec ws)) Z.lot
    have np : ∀ j, vec s j ≤ 0 := fun j => by
      by_cases cj : j < s.length
      · by_cases cp : 0 < s.getD j 0
        · exact absurd ⟨j, cj, cp⟩ c
        · show s.getD j 0 ≤ 0
          omega
      · rw [vec_out (by omega)]
        exact Int.le_refl _
    have l0 : Ld (ll.length + b.length) (fun _ => 0) := ⟨fun _ => Int.le_refl _, fun _ _ => rfl⟩
    have b0 : ∀ j, Bv ll b.length (fun _ => 0) j = 0 := fun j => by
      have := congrFun (Bv_sub (ll := ll) (g := b.length) (vec s) (vec s)) j
      have e : sb (vec s) (vec s) = fun _ => 0 := by
        funext i
        show vec s i - vec s i = 0
        omega
      rw [e] at this
      rw [this]
      show Bv ll b.length (vec s) j - Bv ll b.length (vec s) j = 0
      omega
    have ln : Ld (ll.length + b.length) (fun i => - vec s i) := ⟨fun i => by have := np i; show 0 ≤ - vec s i; omega, fun i hi => by show - vec s i = 0; rw [h.st.sup i hi]; rfl⟩
    have en : (fun i => - vec s i) = sb (fun _ => 0) (vec s) := by
      funext i
      show - vec s i = 0 - vec s i
      omega
    have dn : dgv ll b.length (fun i => - vec s i) = 0 := by
      unfold dgv
      have e : Bv ll b.length (fun i => - vec s i) = fun _ => 0 := by
        rw [en, Bv_sub]
        funext j
        show Bv ll b.length (fun _ => 0) j - Bv ll b.length (vec s) j = 0
        rw [b0, h.st.ker]
        rfl
      rw [e]
      exact sm_zero
    have z : ∀ i, vec s i = 0 := fun i => by
      by_cases ci : i < ll.length + b.length
      · have h1 := sm_dg (g := b.length) Z.lot ln.1
        have h2 := sm_one (g := ll.length + b.length) (x := fun i => - vec s i) (i := i) (fun i _ => ln.1 i) ci
        have h3 := np i
        have h4 : - vec s i ≤ _ := h2
        omega
      · exact h.st.sup i (by omega)
    -- the load of nothing can't be bettered: mu would sink without end
    have e0 : vec s = fun _ => 0 := funext z
    have st := h.st
    rw [e0] at st
    have o0 : Okv ll b.length (vec b) (fun _ => 0) := fun j => by rw [b0]; exact Z.nn j
    have := st.dec (fun _ => 0) l0 o0 (fun _ => Int.le_refl _)
    have e1 : sb (fun _ => 0) (fun _ => (0 : Int)) = (fun _ => (0 : Int)) := by
      funext i
      rfl
    rw [e1] at this
    omega
theorem okv_step {s x : Vec} (Z : St1 ll b ws) (hs : St (ll.length + b.length) (Bv ll b.length) (Okv ll b.length (vec b)) (muv ll b.length (vec ws)) s) (ho : Okv ll b.length (vec b) x) : Okv ll b.length (vec b) (sb x s) :=
  (ax (mu := muv ll b.length (vec ws)) Z.lot).okB _ _ (b_step (ax (mu := muv ll b.length (vec ws)) Z.lot) hs).symm ho
/-- a step taken many times at once -/
theorem many_steps (Z : St1 ll b ws) {s : Vec} (hs : St (ll.length + b.length) (Bv ll b.length) (Okv ll b.length (vec b)) (muv ll b.length (vec ws)) s) {S : Vec → Prop} (hS : S s) : ∀ (t : Nat) (x : Vec), Ld (ll.length + b.length) x → Okv ll b.length (vec b) x → (∀ i, (t : Int) * s i ≤ x i) →
    Rt S x (fun i => x i - (t : Int) * s i) ∧ Ld (ll.length + b.length) (fun i => x i - (t : Int) * s i) ∧ Okv ll b.length (vec b) (fun i => x i - (t : Int) * s i) ∧ muv ll b.length (vec ws) (fun i => x i - (t : Int) * s i) + t ≤ muv ll b.length (vec ws) x := by
  intro t
  induction t with
  | zero =>
    intro x hx ho _
    have e : (fun i => x i - ((0 : Nat) : Int) * s i) = x := by
      funext i
      simp
    rw [e]
    exact ⟨.refl _, hx, ho, Nat.le_refl _⟩
  | succ t ih =>
    intro x hx ho hf
    have f1 : Fit s x := fun i => by
      have h1 := hf i
      have h2 := hx.1 i
      by_cases c : 0 ≤ s i
      · have h3 := Int.mul_le_mul_of_nonneg_right (show (1 : Int) ≤ ((t + 1 : Nat) : Int) by omega) c
        omega
      · omega
    have e : (fun i => x i - ((t + 1 : Nat) : Int) * s i) = fun i => sb x s i - (t : Int) * s i := by
      funext i
      show x i - ((t + 1 : Nat) : Int) * s i = x i - s i - (t : Int) * s i
      rw [show ((t + 1 : Nat) : Int) = (t : Int) + 1 by omega, Int.add_mul]
      omega
    obtain ⟨r1, r2, r3, r4⟩ := ih (sb x s) (ld_step hs hx f1) (okv_step Z hs ho) fun i => by
      have h1 := hf i
      rw [show ((t + 1 : Nat) : Int) = (t : Int) + 1 by omega, Int.add_mul] at h1
      show (t : Int) * s i ≤ x i - s i
      omega
    rw [e]
    refine ⟨.step hS f1 r1, r2, r3, ?_⟩
    have := hs.dec x hx ho f1
    omega
theorem row_step (Z : St1 ll b ws) {x s : List Int} {t : Int} (hx : RowOk ll b x) (hs : StR ll b ws s) {S : Vec → Prop} (hS : S (vec s)) (t1 : 1 ≤ t) (hf : ∀ j, j < s.length → 0 < s.getD j 0 → t * s.getD j 0 ≤ x.getD j 0) :
    RowOk ll b (subR x s t) ∧ Rt S (vec x) (vec (subR x s t)) ∧ muv ll b.length (vec ws) (vec (subR x s t)) < muv ll b.length (vec ws) (vec x) := by
  have el : x.length = s.length := hx.len.trans hs.len.symm
  obtain ⟨n, rfl⟩ : ∃ n : Nat, t = n := ⟨t.toNat, by omega⟩
  obtain ⟨r1, r2, r3, r4⟩ := many_steps Z hs.st hS n (vec x) hx.ld hx.ok fun i => by
    have h2 := hx.ld.1 i
    by_cases c : i < s.length
    · by_cases c2 : 0 < s.getD i 0
      · exact hf i c c2
      · have h3 : vec s i ≤ 0 := by show s.getD i 0 ≤ 0; omega
        have h4 := Int.mul_le_mul_of_nonneg_left h3 (show (0 : Int) ≤ (n : Int) by omega)
        omega
    · rw [vec_out (r := s) (by omega)]
      omega
  rw [← vec_sub el] at r1 r2 r3 r4
  exact ⟨⟨by rw [subR_len el]; exact hx.len, r2, r3⟩, r1, by omega⟩
end
end BL
end HL

namespace HL
namespace BL
/-! great bills: steps that are taken in by their sizes are changes that don't part -/
section
variable {n : Nat} {B : Vec → Vec} {dg : Vec → Int} {Ok : Vec → Prop} {mu : Vec → Nat} {S : Vec → Prop}
/-- the lesser loads alone -/
theorem Ax.below (A : Ax n B dg Ok mu) (d : Int) : Ax n B dg (fun x => Ok x ∧ dg x < d) mu where
  badd := A.badd
  bsub := A.bsub
  dB := A.dB
  dadd := A.dadd
  dnn := A.dnn
  dpos := A.dpos
  okB x y e h := ⟨A.okB x y e h.1, by rw [← A.dB x y e]; exact h.2⟩
  okd x y hx hy h := ⟨A.okd x y hx hy h.1, by
    have := A.dadd x y
    have := A.dnn y hy
    omega⟩
theorem Ax.dsb (A : Ax n B dg Ok mu) (x y : Vec) : dg (sb x y) = dg x - dg y := by
  have h := A.dadd (sb x y) y
  have e : ad (sb x y) y = x := by
    funext i
    show x i - y i + y i = x i
    omega
  rw [e] at h
  omega
theorem St.below {s : Vec} (h : St n B Ok mu s) (d : Int) : St n B (fun x => Ok x ∧ dg x < d) mu s where
  ker := h.ker
  sup := h.sup
  dec x hx ho hf := h.dec x hx ho.1 hf
theorem fit_ld {a u : Vec} (ha : Ld n a) (hu : Ld n u) (h : Fit a u) : Ld n (sb u a) := ⟨fun i => by
    have := h i
    show 0 ≤ u i - a i
    omega, fun i hi => by
    show u i - a i = 0
    rw [hu.2 i hi, ha.2 i hi]
    rfl⟩
theorem ad_sb {a u : Vec} : ad a (sb u a) = u := by
  funext i
  show a i + (u i - a i) = u i
  omega
/-- what is less than a load that no step fits is the best of its bill -/
theorem below_best (A : Ax n B dg Ok mu) (hS : ∀ s, S s → St n B Ok mu s) {kinds : Nat} {hold : Nat → Vec} (M : Hm n kinds B hold) (d : Int) (F : Full n kinds (fun x => Ok x ∧ dg x < d) hold S)
    {u : Vec} (hu : Ld n u) (ho : Ok u) (hd : dg u ≤ d) (iu : ∀ s, S s → ¬ Fit s u) {a : Vec} (ha : Ld n a) (fa : Fit a u) (lt : dg a < dg u) {y : Vec} (hy : Ld n y) (e : B y = B a) : mu a ≤ mu y := by
  have oa : Ok a := A.okd a (sb u a) ha (fit_ld ha hu fa) (by rw [ad_sb]; exact ho)
  exact best_of (A.below d) (fun s h => (hS s h).below d) M F ha ⟨oa, by omega⟩ (fun s h f => iu s h fun i => by
    have := f i
    have := fa i
    omega) hy e
/-- where all lesser loads are led to their best, two loads that no step fits have no parts that could be told one for the other -/
theorem no_parts (A : Ax n B dg Ok mu) (hS : ∀ s, S s → St n B Ok mu s) {kinds : Nat} {hold : Nat → Vec} (M : Hm n kinds B hold) (d : Int) (F : Full n kinds (fun x => Ok x ∧ dg x < d) hold S)
    (inj : ∀ x y, Ld n x → Ld n y → Ok x → Ok y → mu x = mu y → x = y) {u v : Vec} (hu : Ld n u) (hv : Ld n v) (ho : Ok u) (hd : dg u ≤ d) (iu : ∀ s, S s → ¬ Fit s u) (iv : ∀ s, S s → ¬ Fit s v)
    {a b : Vec} (ha : Ld n a) (hb : Ld n b) (fa : Fit a u) (fb : Fit b v) (e : B a = B b) (lt : dg a < dg u) : a = b := by
  have oa : Ok a := A.okd a (sb u a) ha (fit_ld ha hu fa) (by rw [ad_sb]; exact ho)
  have ob : Ok b := A.okB a b e oa
  have A' := A.below d
  have hS' : ∀ s, S s → St n B (fun x => Ok x ∧ dg x < d) mu s := fun s h => (hS s h).below d
  have da : dg a < d := by omega
  have db : dg b < d := by rw [← A.dB a b e]; exact da
  have ia : ∀ s, S s → ¬ Fit s a := fun s h f => iu s h fun i => by
    have := f i
    have := fa i
    omega
  have ib : ∀ s, S s → ¬ Fit s b := fun s h f => iv s h fun i => by
    have := f i
    have := fb i
    omega
  have h1 := best_of A' hS' M F ha ⟨oa, da⟩ ia hb e.symm
  have h2 := best_of A' hS' M F hb ⟨ob, db⟩ ib ha e
  exact inj a b ha hb oa ob (by omega)
end
/-- numbers of one good: two loads alike that have no parts alike are small -/
structure Wt (n : Nat) (m : Int) (W : Vec → Int) : Prop where
  add : ∀ x y, W (ad x y) = W x + W y
  sub : ∀ x y, W (sb x y) = W x - W y
  one : ∀ i, i < n → 1 ≤ W (un i) ∧ W (un i) ≤ m
theorem sm_un1 {i : Nat} : ∀ {n : Nat}, i < n → sm n (un i) = 1 := fun {n} h => by
  have h1 : ∀ {n : Nat}, n ≤ i → sm n (un i) = 0 := fun {n} hn => by
    rw [sm_congr (y := fun _ => 0) fun j hj => by unfold un; rw [if_neg (by omega)]]
    exact sm_zero
  induction n with
  | zero => omega
  | succ n ih =>
    show sm n (un i) + un i n = 1
    by_cases c : i < n
    · rw [ih c]
      unfold un
      rw [if_neg (by omega)]
      rfl
    · have e : n = i := by omega
      rw [h1 (by omega), e]
      unfold un
      rw [if_pos rfl]
      rfl
theorem ints_few : ∀ {m : Nat} {l : List Int}, l.Nodup → (∀ w ∈ l, -(m : Int) < w ∧ w ≤ 0) → l.length ≤ m := fun {m l} nd h => by
  have : l.length ≤ ((List.range m).map fun j : Nat => -(j : Int)).length := by
    have key : ∀ {l k : List Int}, l.Nodup → (∀ x ∈ l, x ∈ k) → l.length ≤ k.length := by
      intro l
      induction l with
      | nil => exact fun _ _ => Nat.zero_le _
      | cons x l ih =>
        intro k nd hk
        obtain ⟨n1, n2⟩ := List.nodup_cons.mp nd
        have hx := hk x List.mem_cons_self
        have := ih (k := k.erase x) n2 fun y hy => (List.mem_erase_of_ne (fun e => n1 (by rw [← e]; exact hy))).mpr (hk y (List.mem_cons_of_mem _ hy))
        rw [List.length_erase_of_mem hx] at this
        have := List.length_pos_of_mem hx
        rw [List.length_cons]
        omega
    refine key nd fun w hw => ?_
    have := h w hw
    exact List.mem_map.mpr ⟨(-w).toNat, List.mem_range.mpr (by omega), by omega⟩
  rw [List.length_map, List.length_range] at this
  exact this
theorem W_nn {n : Nat} {m : Int} {W : Vec → Int} (hW : Wt n m W) : ∀ (t : Nat) (x : Vec), Ld n x → sm n x ≤ t → 0 ≤ W x ∧ ((∃ i, 0 < x i) → 0 < W x) := by
  have w0 : W (fun _ => 0) = 0 := by
    have := hW.add (fun _ => 0) (fun _ => 0)
    have e : ad (fun _ => 0) (fun _ => 0) = fun _ => 0 := by funext i; rfl
    rw [e] at this
    omega
  intro t
  induction t with
  | zero =>
    intro x hx hs
    have hz : x = fun _ => 0 := by
      funext i
      by_cases c : i < n
      · have := sm_one (g := n) (x := x) (i := i) (fun i _ => hx.1 i) c
        have := hx.1 i
        omega
      · exact hx.2 i (by omega)
    rw [hz]
    refine ⟨by rw [w0]; exact Int.le_refl _, fun ⟨i, hi⟩ => ?_⟩
    exact absurd hi (by show ¬ (0 : Int) < 0; omega)
  | succ t ih =>
    intro x hx hs
    by_cases c : ∃ i, 0 < x i
    · obtain ⟨i, hi⟩ := c
      have hin : i < n := by
        by_cases q : i < n
        · exact q
        · have := hx.2 i (by omega); omega
      have f : Fit (un i) x := fun j => by
        unfold un
        by_cases q : j = i
        · rw [if_pos q, q]; omega
        · rw [if_neg q]; exact hx.1 j
      have l := fit_ld (ld_un hin) hx f
      have h1 : sm n (sb x (un i)) = sm n x - 1 := by rw [sm_sub, sm_un1 hin]
      have h2 := (ih _ l (by omega)).1
      have h3 := hW.sub x (un i)
      have h4 := hW.one i hin
      exact ⟨by omega, fun _ => by omega⟩
    · have hz : x = fun _ => 0 := by
        funext i
        have := hx.1 i
        have : ¬ 0 < x i := fun z => c ⟨i, z⟩
        omega
      refine ⟨?_, fun z => absurd z c⟩
      rw [hz, w0]
      exact Int.le_refl _
theorem W_pos {n : Nat} {m : Int} {W : Vec → Int} (hW : Wt n m W) {x : Vec} (hx : Ld n x) : 0 ≤ W x ∧ ((∃ i, 0 < x i) → 0 < W x) := W_nn hW (sm n x).toNat x hx (by
  have := sm_nn (g := n) (x := x) fun i _ => hx.1 i
  omega)
theorem pig {n m : Nat} {W : Vec → Int} (hW : Wt n m W) {u v : Vec} (hu : Ld n u) (hv : Ld n v) (e : W u = W v)
    (np : ∀ a b, Ld n a → Ld n b → Fit a u → Fit b v → W a = W b → (∃ i, 0 < a i) → (∃ i, a i < u i) → False) : sm n u ≤ m := by
  have key : ∀ (t : Nat) (a b : Vec) (vis : List Int), (sm n u - sm n a + (sm n v - sm n b)).toNat ≤ t → Ld n a → Ld n b → Fit a u → Fit b v → -(m : Int) < W a - W b → vis.Nodup → (vis.length : Int) = sm n a →
      (∀ w ∈ vis, (-(m : Int) < w ∧ w ≤ 0) ∧ ∃ aw bw, Ld n aw ∧ Ld n bw ∧ Fit aw a ∧ Fit bw b ∧ (∃ i, aw i < a i) ∧ W aw - W bw = w) → sm n u ≤ m := by
    intro t
    induction t with
    | zero =>
      intro a b vis ht ha hb fa fb hd nd hl hv'
      have h1 : sm n a ≤ sm n u := sm_le fun i _ => fa i
      have h2 : sm n b ≤ sm n v := sm_le fun i _ => fb i
      have := ints_few nd fun w hw => (hv' w hw).1
      omega
    | succ t ih =>
      intro a b vis ht ha hb fa fb hd nd hl hv'
      have h1 : sm n a ≤ sm n u := sm_le fun i _ => fa i
      have h2 : sm n b ≤ sm n v := sm_le fun i _ => fb i
      by_cases c : ∃ i, a i < u i
      · obtain ⟨i, hi⟩ := c
        by_cases c2 : W a - W b ≤ 0
        · -- one more of u
          have hin : i < n := by
            by_cases q : i < n
            · exact q
            · have := hu.2 i (by omega)
              have := ha.1 i
              omega
          have hnv : W a - W b ∉ vis := fun hm => by
            obtain ⟨_, aw, bw, l1, l2, f1, f2, ⟨j, hj⟩, ew⟩ := hv' _ hm
            refine np (sb a aw) (sb b bw) (fit_ld l1 ha f1) (fit_ld l2 hb f2) (fun x => ?_) (fun x => ?_) ?_ ⟨j, ?_⟩ ⟨i, ?_⟩
            · have := fa x
              have := l1.1 x
              show a x - aw x ≤ u x
              omega
            · have := fb x
              have := l2.1 x
              show b x - bw x ≤ v x
              omega
            · rw [hW.sub, hW.sub]
              omega
            · show 0 < a j - aw j
              omega
            · have := l1.1 i
              show a i - aw i < u i
              omega
          have la : Ld n (ad a (un i)) := ⟨fun x => by
              have := ha.1 x
              have := (ld_un hin).1 x
              show 0 ≤ a x + un i x
              omega, fun x hx => by
              show a x + un i x = 0
              rw [ha.2 x hx, (ld_un hin).2 x hx]
              rfl⟩
          have hs : sm n (ad a (un i)) = sm n a + 1 := by rw [sm_add, sm_un1 hin]
          have hw1 := hW.one i hin
          have hwa := hW.add a (un i)
          have ui : ∀ x, un i x = if x = i then 1 else 0 := fun _ => rfl
          refine ih (ad a (un i)) b ((W a - W b) :: vis) (by omega) la hb (fun x => ?_) fb (by omega) (List.nodup_cons.mpr ⟨hnv, nd⟩) (by rw [List.length_cons]; omega) fun w hw => ?_
          · have := fa x
            show a x + un i x ≤ u x
            rw [ui]
            split
            · rename_i q
              rw [q]
              omega
            · omega
          · rcases List.mem_cons.mp hw with q | q
            · rw [q]
              refine ⟨⟨hd, c2⟩, a, b, ha, hb, fun x => ?_, fun x => Int.le_refl _, ⟨i, ?_⟩, rfl⟩
              · have := (ld_un hin).1 x
                show a x ≤ a x + un i x
                omega
              · show a i < a i + un i i
                rw [ui, if_pos rfl]
                omega
            · obtain ⟨r, aw, bw, l1, l2, f1, f2, ⟨j, hj⟩, ew⟩ := hv' _ q
              refine ⟨r, aw, bw, l1, l2, fun x => ?_, f2, ⟨j, ?_⟩, ew⟩
              · have := (ld_un hin).1 x
                have := f1 x
                show aw x ≤ a x + un i x
                omega
              · have := (ld_un hin).1 j
                show aw j < a j + un i j
                omega
        · -- one more of v
          have hlt : ∃ j, b j < v j := by
            refine Classical.byContradiction fun no => ?_
            have eb : b = v := by
              funext j
              have := fb j
              have : ¬ b j < v j := fun z => no ⟨j, z⟩
              omega
            have l := fit_ld ha hu fa
            have h3 := (W_pos hW l).1
            rw [hW.sub] at h3
            rw [eb] at c2
            omega
          obtain ⟨j, hj⟩ := hlt
          have hjn : j < n := by
            by_cases q : j < n
            · exact q
            · have := hv.2 j (by omega)
              have := hb.1 j
              omega
          have lb : Ld n (ad b (un j)) := ⟨fun x => by
              have := hb.1 x
              have := (ld_un hjn).1 x
              show 0 ≤ b x + un j x
              omega, fun x hx => by
              show b x + un j x = 0
              rw [hb.2 x hx, (ld_un hjn).2 x hx]
              rfl⟩
          have hs : sm n (ad b (un j)) = sm n b + 1 := by rw [sm_add, sm_un1 hjn]
          have hw1 := hW.one j hjn
          have hwb := hW.add b (un j)
          have uj : ∀ x, un j x = if x = j then 1 else 0 := fun _ => rfl
          refine ih a (ad b (un j)) vis (by
            have : sm n (ad b (un j)) ≤ sm n v := sm_le fun x _ => by
              have := fb x
              show b x + un j x ≤ v x
              rw [uj]
              split
              · rename_i q
                rw [q]
                omega
              · omega
            omega) ha lb fa (fun x => ?_) (by omega) nd hl fun w hw => ?_
          · have := fb x
            show b x + un j x ≤ v x
            rw [uj]
            split
            · rename_i q
              rw [q]
              omega
            · omega
          · obtain ⟨r, aw, bw, l1, l2, f1, f2, hx, ew⟩ := hv' _ hw
            refine ⟨r, aw, bw, l1, l2, f1, fun x => ?_, hx, ew⟩
            have := (ld_un hjn).1 x
            have := f2 x
            show bw x ≤ b x + un j x
            omega
      · -- all of u is used
        have ea : a = u := by
          funext i
          have := fa i
          have : ¬ a i < u i := fun z => c ⟨i, z⟩
          omega
        rw [ea] at hl
        have := ints_few nd fun w hw => (hv' w hw).1
        omega
  have w0 : W (fun _ => 0) = 0 := by
    have := hW.add (fun _ => 0) (fun _ => 0)
    have e : ad (fun _ => 0) (fun _ => 0) = fun _ => 0 := by funext i; rfl
    rw [e] at this
    omega
  by_cases m0 : m = 0
  · -- nothing can be there
    subst m0
    by_cases c : ∃ i, i < n
    · obtain ⟨i, hi⟩ := c
      have := hW.one i hi
      omega
    · have : n = 0 := by
        refine Classical.byContradiction fun z => c ⟨0, by omega⟩
      subst this
      exact Int.le_refl _
  · exact key _ (fun _ => 0) (fun _ => 0) [] (Nat.le_refl _) ⟨fun _ => Int.le_refl _, fun _ _ => rfl⟩ ⟨fun _ => Int.le_refl _, fun _ _ => rfl⟩ hu.1 hv.1 (by rw [w0]; omega) List.nodup_nil (by rw [sm_zero]; rfl) fun w hw => by cases hw
end BL
end HL

namespace HL
namespace BL
/-! one good after the other: what loads without parts are made of -/
def sumV : List Vec → Vec
  | [] => fun _ => 0
  | y :: l => ad y (sumV l)
theorem ad_comm (x y : Vec) : ad x y = ad y x := by
  funext i
  show x i + y i = y i + x i
  omega
theorem ad_assoc (x y z : Vec) : ad (ad x y) z = ad x (ad y z) := by
  funext i
  show x i + y i + z i = x i + (y i + z i)
  omega
theorem sumV_out {y : Vec} : ∀ {l : List Vec}, y ∈ l → ∃ r, (∀ w ∈ r, w ∈ l) ∧ r.length + 1 = l.length ∧ sumV l = ad y (sumV r)
  | x :: l, h => by
    rcases List.mem_cons.mp h with e | h
    · exact ⟨l, fun w hw => List.mem_cons_of_mem _ hw, rfl, by rw [e]; rfl⟩
    · obtain ⟨r, h1, h2, h3⟩ := sumV_out h
      refine ⟨x :: r, fun w hw => ?_, by rw [List.length_cons, List.length_cons, h2], ?_⟩
      · rcases List.mem_cons.mp hw with e | hw
        · rw [e]; exact List.mem_cons_self
        · exact List.mem_cons_of_mem _ (h1 w hw)
      · show ad x (sumV l) = ad y (ad x (sumV r))
        rw [h3, ← ad_assoc, ← ad_assoc, ad_comm x y]
theorem sumV_nn : ∀ {l : List Vec}, (∀ y ∈ l, ∀ i, 0 ≤ y i) → ∀ i, 0 ≤ sumV l i
  | [], _, _ => Int.le_refl _
  | y :: l, h, i => by
    have h1 := h y List.mem_cons_self i
    have h2 := sumV_nn (fun w hw => h w (List.mem_cons_of_mem _ hw)) i
    show 0 ≤ y i + sumV l i
    omega
/-- additive -/
structure Add (val : Vec → Int) : Prop where
  add : ∀ x y, val (ad x y) = val x + val y
  sub : ∀ x y, val (sb x y) = val x - val y
theorem Add.zero {val : Vec → Int} (A : Add val) : val (fun _ => 0) = 0 := by
  have := A.sub (fun _ => 0) (fun _ => 0)
  have e : sb (fun _ => 0) (fun _ => (0 : Int)) = fun _ => (0 : Int) := by funext i; rfl
  rw [e] at this
  omega
theorem val_sum {val : Vec → Int} (A : Add val) : ∀ {l : List Vec}, (∀ y ∈ l, 0 ≤ val y) → 0 ≤ val (sumV l)
  | [], _ => by
    show 0 ≤ val (fun _ => 0)
    rw [A.zero]
    exact Int.le_refl _
  | y :: l, h => by
    have h1 := h y List.mem_cons_self
    have h2 := val_sum A fun w hw => h w (List.mem_cons_of_mem _ hw)
    show 0 ≤ val (ad y (sumV l))
    rw [A.add]
    omega
theorem val_sum' {val : Vec → Int} (A : Add val) : ∀ {l : List Vec}, (∀ y ∈ l, val y ≤ 0) → val (sumV l) ≤ 0
  | [], _ => by
    show val (fun _ => 0) ≤ 0
    rw [A.zero]
    exact Int.le_refl _
  | y :: l, h => by
    have h1 := h y List.mem_cons_self
    have h2 := val_sum' A fun w hw => h w (List.mem_cons_of_mem _ hw)
    show val (ad y (sumV l)) ≤ 0
    rw [A.add]
    omega
/-- what is made of G -/
def Gen (G : Vec → Prop) (x : Vec) : Prop := ∃ l : List Vec, (∀ y ∈ l, G y) ∧ x = sumV l
/-- S: what is on the way, Z: what has come to nothing -/
structure Clo (val : Vec → Int) (G S Z : Vec → Prop) : Prop where
  nn : ∀ y, G y → ∀ i, 0 ≤ y i
  z0 : ∀ z, Z z → val z = 0
  zn : ∀ z, Z z → (∀ i, 0 ≤ z i) ∧ ∃ i, 0 < z i
  flat : ∀ y, G y → val y = 0 → Z y
  base : ∀ y, G y → val y ≠ 0 → S y
  step : ∀ s y, S s → G y → (0 < val s ∧ val y < 0) ∨ (val s < 0 ∧ 0 < val y) → (∃ z, Z z ∧ Fit z (ad s y)) ∨ (S (ad s y) ∧ val (ad s y) ≠ 0)
theorem walk {val : Vec → Int} (A : Add val) {G S Z : Vec → Prop} (C : Clo val G S Z) : ∀ (t : Nat) (s : Vec) (r : List Vec), r.length ≤ t → S s → val s ≠ 0 → (∀ y ∈ r, G y) → val (ad s (sumV r)) = 0 → ∃ z, Z z ∧ Fit z (ad s (sumV r)) := by
  intro t
  induction t with
  | zero =>
    intro s r hr hs hv hg he
    have : r = [] := List.eq_nil_of_length_eq_zero (by omega)
    subst this
    rw [A.add] at he
    have : val (sumV []) = 0 := A.zero
    omega
  | succ t ih =>
    intro s r hr hs hv hg he
    rw [A.add] at he
    have hy : ∃ y ∈ r, (0 < val s ∧ val y < 0) ∨ (val s < 0 ∧ 0 < val y) := by
      refine Classical.byContradiction fun no => ?_
      by_cases c : 0 < val s
      · have := val_sum A (l := r) fun y hy => by
          refine Classical.byContradiction fun z => no ⟨y, hy, .inl ⟨c, by omega⟩⟩
        omega
      · have := val_sum' A (l := r) fun y hy => by
          refine Classical.byContradiction fun z => no ⟨y, hy, .inr ⟨by omega, by omega⟩⟩
        omega
    obtain ⟨y, hyr, hsg⟩ := hy
    obtain ⟨r', h1, h2, h3⟩ := sumV_out hyr
    have e : ad s (sumV r) = ad (ad s y) (sumV r') := by rw [h3, ad_assoc]
    rcases C.step s y hs (hg y hyr) hsg with ⟨z, hz, f⟩ | ⟨hS, hne⟩
    · refine ⟨z, hz, fun i => ?_⟩
      have h4 := f i
      have h5 := sumV_nn (l := r') (fun w hw => C.nn w (hg w (h1 w hw))) i
      rw [e]
      show z i ≤ ad s y i + sumV r' i
      omega
    · have := ih (ad s y) r' (by omega) hS hne (fun w hw => hg w (h1 w hw)) (by rw [← e, A.add]; exact he)
      rw [e]
      exact this
/-- some part has come to nothing -/
theorem part {val : Vec → Int} (A : Add val) {G S Z : Vec → Prop} (C : Clo val G S Z) {x : Vec} (hx : Gen G x) (h0 : val x = 0) (hne : ∃ i, x i ≠ 0) : ∃ z, Z z ∧ Fit z x := by
  obtain ⟨l, hl, rfl⟩ := hx
  cases l with
  | nil =>
    obtain ⟨i, hi⟩ := hne
    exact absurd rfl hi
  | cons y r =>
    have hy := hl y List.mem_cons_self
    have hr : ∀ w ∈ r, G w := fun w hw => hl w (List.mem_cons_of_mem _ hw)
    by_cases c : val y = 0
    · refine ⟨y, C.flat y hy c, fun i => ?_⟩
      have := sumV_nn (l := r) (fun w hw => C.nn w (hr w hw)) i
      show y i ≤ y i + sumV r i
      omega
    · exact walk A C r.length y r (Nat.le_refl _) (C.base y hy c) c hr h0
/-- all that comes to nothing is made of Z -/
theorem made {n : Nat} {val : Vec → Int} (A : Add val) {G S Z M : Vec → Prop} (C : Clo val G S Z) (hM : ∀ x, M x → Ld n x ∧ Gen G x) (hs : ∀ x y, M x → M y → Fit y x → M (sb x y)) (hz : ∀ z, Z z → M z) {mu : Vec → Nat} (hmu : ∀ x z, M x → Z z → Fit z x → mu (sb x z) < mu x) :
    ∀ (t : Nat) (x : Vec), mu x ≤ t → M x → val x = 0 → Gen Z x := by
  intro t
  induction t with
  | zero =>
    intro x hx hm h0
    by_cases c : ∃ i, x i ≠ 0
    · obtain ⟨z, h1, h2⟩ := part A C (hM x hm).2 h0 c
      have := hmu x z hm h1 h2
      omega
    · refine ⟨[], (fun y hy => by cases hy), funext fun i => ?_⟩
      exact Classical.byContradiction fun z => c ⟨i, z⟩
  | succ t ih =>
    intro x hx hm h0
    by_cases c : ∃ i, x i ≠ 0
    · obtain ⟨z, h1, h2⟩ := part A C (hM x hm).2 h0 c
      have h3 := hmu x z hm h1 h2
      obtain ⟨l, hl, e⟩ := ih (sb x z) (by omega) (hs x z hm (hz z h1) h2) (by rw [A.sub, h0, C.z0 z h1]; rfl)
      refine ⟨z :: l, fun y hy => ?_, ?_⟩
      · rcases List.mem_cons.mp hy with q | q
        · rw [q]; exact h1
        · exact hl y q
      · show x = ad z (sumV l)
        rw [← e]
        funext i
        show x i = z i + (x i - z i)
        omega
    · refine ⟨[], (fun y hy => by cases hy), funext fun i => ?_⟩
      exact Classical.byContradiction fun z => c ⟨i, z⟩
end BL
end HL

namespace HL
namespace BL
/-! what loads without parts are made of: found by lists of numbers, one good after the other -/
abbrev Row := List Int
def vr (r : Row) : Vec := vec r
def addR (x y : Row) : Row := (x.zip y).map fun q => q.1 + q.2
def leR (x y : Row) : Bool := (x.zip y).all fun q => decide (q.1 ≤ q.2)
/-- the value of a row in one good: w tells each column's number, with its sign -/
def valR (w x : Row) : Int := ((w.zip x).map fun q => q.1 * q.2).sum
def opp (a b : Int) : Bool := (decide (0 < a) && decide (b < 0)) || (decide (a < 0) && decide (0 < b))
/-- all ways on from s come to something told -/
def chk (w : Row) (G Z : List Row) : Nat → Row → Bool
  | 0, _ => false
  | t + 1, s => G.all fun y => !opp (valR w s) (valR w y) || (Z.any (fun z => leR z (addR s y)) || (decide (valR w (addR s y) ≠ 0) && chk w G Z t (addR s y)))
/-- what comes to nothing, sought by size -/
def bfs (w : Row) (G : List Row) : Nat → List Row → List Row → List Row
  | 0, _, Z => Z
  | t + 1, fr, Z =>
    let nx := fr.flatMap fun s => (G.filter fun y => opp (valR w s) (valR w y)).map fun y => addR s y
    let Z' := (Z ++ nx.filter fun s => decide (valR w s = 0)).eraseDups
    let fr' := (nx.filter fun s => decide (valR w s ≠ 0) && !Z'.any fun z => leR z s).eraseDups
    if fr'.isEmpty then Z' else bfs w G t fr' Z'
def minZ (Z : List Row) : List Row := Z.filter fun z => !Z.any fun y => decide (y ≠ z) && leR y z
def nextZ (w : Row) (G : List Row) : List Row := minZ (bfs w G 20 (G.filter fun y => decide (valR w y ≠ 0)) (G.filter fun y => decide (valR w y = 0)))
def okRowN (n : Nat) (z : Row) : Bool := decide (z.length = n) && (z.all (fun x => decide (0 ≤ x)) && z.any fun x => decide (0 < x))
/-- what is told holds -/
def okZ (n : Nat) (w : Row) (ws : List Row) (G Z : List Row) : Bool :=
  Z.all (fun z => okRowN n z && (decide (valR w z = 0) && ws.all fun w' => decide (valR w' z = 0))) &&
  G.all fun y => if valR w y = 0 then Z.any (fun z => decide (z = y)) else chk w G Z 24 y
def lvls (n : Nat) : List Row → List Row → List Row → Option (List Row)
  | [], _, G => some G
  | w :: rest, ws, G => let Z := nextZ w G; if okZ n w ws G Z = true then lvls n rest (w :: ws) Z else none
def unR (i n : Nat) : Row := (List.range n).map fun j => if j = i then 1 else 0
def unitsN (n : Nat) : List Row := (List.range n).map fun i => unR i n
/-! ### as loads -/
theorem vec_add {x y : Row} (e : x.length = y.length) : vec (addR x y) = ad (vec x) (vec y) := by
  funext i
  show (addR x y).getD i 0 = x.getD i 0 + y.getD i 0
  unfold addR
  rw [List.getD_eq_getElem?_getD, List.getD_eq_getElem?_getD, List.getD_eq_getElem?_getD, List.getElem?_map]
  by_cases c : i < x.length
  · have h1 : x[i]? = some x[i] := List.getElem?_eq_getElem c
    have h2 : y[i]? = some (y[i]'(by omega)) := List.getElem?_eq_getElem (by omega)
    have h3 : (x.zip y)[i]? = some (x[i], y[i]'(by omega)) := by
      rw [List.getElem?_zip_eq_some]
      exact ⟨h1, h2⟩
    rw [h1, h2, h3]
    rfl
  · have h1 : x[i]? = none := List.getElem?_eq_none (by omega)
    have h2 : y[i]? = none := List.getElem?_eq_none (by omega)
    have h3 : (x.zip y)[i]? = none := List.getElem?_eq_none (by rw [List.length_zip]; omega)
    rw [h1, h2, h3]
    rfl
theorem add_len {x y : Row} (e : x.length = y.length) : (addR x y).length = x.length := by
  unfold addR
  rw [List.length_map, List.length_zip]
  omega
theorem le_fit {x y : Row} (e : x.length = y.length) (h : leR x y = true) : Fit (vec x) (vec y) := fun i => by
  by_cases c : i < x.length
  · have h1 : x[i]? = some x[i] := List.getElem?_eq_getElem c
    have h2 : y[i]? = some (y[i]'(by omega)) := List.getElem?_eq_getElem (by omega)
    have h3 : (x[i], y[i]'(by omega)) ∈ x.zip y := List.mem_of_getElem? (i := i) (by rw [List.getElem?_zip_eq_some]; exact ⟨h1, h2⟩)
    have := of_decide_eq_true (List.all_eq_true.mp h _ h3)
    show x.getD i 0 ≤ y.getD i 0
    rw [List.getD_eq_getElem?_getD, List.getD_eq_getElem?_getD, h1, h2]
    exact this
  · rw [vec_out (by omega), vec_out (by omega)]
    exact Int.le_refl _
/-- values, as loads have them -/
def valW (w : Row) (x : Vec) : Int := sm w.length fun i => vec w i * x i
theorem valW_add (w : Row) : Add (valW w) where
  add x y := by
    unfold valW
    rw [← sm_add]
    refine sm_congr fun i _ => ?_
    show vec w i * (x i + y i) = vec w i * x i + vec w i * y i
    rw [Int.mul_add]
  sub x y := by
    unfold valW
    rw [← sm_sub]
    refine sm_congr fun i _ => ?_
    show vec w i * (x i - y i) = vec w i * x i - vec w i * y i
    rw [Int.mul_sub]
theorem valR_eq : ∀ {w x : Row}, w.length = x.length → valR w x = valW w (vec x)
  | [], [], _ => rfl
  | a :: w, b :: x, e => by
    have ih := valR_eq (w := w) (x := x) (Nat.succ.inj e)
    unfold valR valW at *
    rw [List.zip_cons_cons, List.map_cons, List.sum_cons, ih, List.length_cons, sm_sh]
    rfl
  | [], _ :: _, e => by cases e
  | _ :: _, [], e => by cases e
def inL (n : Nat) (G : List Row) (v : Vec) : Prop := ∃ r ∈ G, r.length = n ∧ v = vec r
/-- rows on the way: all ways on from them are told -/
def onWay (n : Nat) (w : Row) (G Z : List Row) (v : Vec) : Prop := ∃ r t, r.length = n ∧ v = vec r ∧ chk w G Z t r = true
theorem opp_of {a b : Int} (h : (0 < a ∧ b < 0) ∨ (a < 0 ∧ 0 < b)) : opp a b = true := by
  unfold opp
  rcases h with ⟨h1, h2⟩ | ⟨h1, h2⟩
  · rw [decide_eq_true h1, decide_eq_true h2]; rfl
  · rw [decide_eq_true h1, decide_eq_true h2]
    simp
theorem row_ld {n : Nat} {z : Row} (h : okRowN n z = true) : z.length = n ∧ Ld n (vec z) ∧ ∃ i, 0 < vec z i := by
  unfold okRowN at h
  rw [Bool.and_eq_true, Bool.and_eq_true] at h
  obtain ⟨h1, h2, h3⟩ := h
  have h1 := of_decide_eq_true h1
  refine ⟨h1, ⟨fun i => ?_, fun i hi => vec_out (by omega)⟩, ?_⟩
  · by_cases c : i < z.length
    · have := of_decide_eq_true (List.all_eq_true.mp h2 _ (List.getElem_mem c))
      show 0 ≤ z.getD i 0
      rw [List.getD_eq_getElem?_getD, List.getElem?_eq_getElem c]
      exact this
    · rw [vec_out (by omega)]
      exact Int.le_refl _
  · obtain ⟨x, hx, hx0⟩ := List.any_eq_true.mp h3
    obtain ⟨i, hi, e⟩ := List.mem_iff_getElem.mp hx
    refine ⟨i, ?_⟩
    show 0 < z.getD i 0
    rw [List.getD_eq_getElem?_getD, List.getElem?_eq_getElem hi, e]
    exact of_decide_eq_true hx0
theorem clo_of {n : Nat} {w : Row} {ws G Z : List Row} (hw : w.length = n) (hG : ∀ y ∈ G, okRowN n y = true) (h : okZ n w ws G Z = true) : Clo (valW w) (inL n G) (onWay n w G Z) (inL n Z) := by
  unfold okZ at h
  rw [Bool.and_eq_true] at h
  obtain ⟨hZ, hY⟩ := h
  have zz : ∀ z ∈ Z, okRowN n z = true ∧ valR w z = 0 := fun z hz => by
    have := List.all_eq_true.mp hZ z hz
    rw [Bool.and_eq_true, Bool.and_eq_true] at this
    exact ⟨this.1, of_decide_eq_true this.2.1⟩
  refine ⟨?_, ?_, ?_, ?_, ?_, ?_⟩
  · rintro y ⟨r, hr, _, rfl⟩
    exact (row_ld (hG r hr)).2.1.1
  · rintro z ⟨r, hr, hl, rfl⟩
    rw [← valR_eq (hw.trans hl.symm)]
    exact (zz r hr).2
  · rintro z ⟨r, hr, hl, rfl⟩
    have := row_ld (zz r hr).1
    exact ⟨this.2.1.1, this.2.2⟩
  · rintro y ⟨r, hr, hl, rfl⟩ h0
    rw [← valR_eq (hw.trans hl.symm)] at h0
    have := List.all_eq_true.mp hY r hr
    rw [if_pos h0] at this
    obtain ⟨z, hz, e⟩ := List.any_eq_true.mp this
    have e := of_decide_eq_true e
    exact ⟨z, hz, by rw [e]; exact hl, by rw [e]⟩
  · rintro y ⟨r, hr, hl, rfl⟩ h0
    rw [← valR_eq (hw.trans hl.symm)] at h0
    have := List.all_eq_true.mp hY r hr
    rw [if_neg h0] at this
    exact ⟨r, 24, hl, rfl, this⟩
  · rintro s y ⟨r, t, hl, rfl, hc⟩ ⟨q, hq, hql, rfl⟩ ho
    rw [← valR_eq (hw.trans hl.symm), ← valR_eq (hw.trans hql.symm)] at ho
    cases t with
    | zero => cases hc
    | succ t =>
      have := List.all_eq_true.mp hc q hq
      rw [opp_of ho] at this
      have el : r.length = q.length := hl.trans hql.symm
      have al := add_len el
      rw [← vec_add el]
      rcases Bool.or_eq_true _ _ |>.mp this with h | h
      · cases h
      rcases Bool.or_eq_true _ _ |>.mp h with h | h
      · obtain ⟨z, hz, hle⟩ := List.any_eq_true.mp h
        have zl := (row_ld (zz z hz).1).1
        exact .inl ⟨vec z, ⟨z, hz, zl, rfl⟩, le_fit (by omega) hle⟩
      · rw [Bool.and_eq_true] at h
        refine .inr ⟨⟨addR r q, t, by omega, rfl, h.2⟩, ?_⟩
        rw [← valR_eq (by omega)]
        exact of_decide_eq_true h.1
/-- loads of no value in all goods told so far -/
def Nul (n : Nat) (ws : List Row) (x : Vec) : Prop := Ld n x ∧ ∀ w ∈ ws, valW w x = 0
theorem nul_sub {n : Nat} {ws : List Row} {x y : Vec} (hx : Nul n ws x) (hy : Nul n ws y) (f : Fit y x) : Nul n ws (sb x y) := ⟨fit_ld hy.1 hx.1 f, fun w hw => by rw [(valW_add w).sub, hx.2 w hw, hy.2 w hw]; rfl⟩
theorem lvl_up {n : Nat} {w : Row} {ws G Z : List Row} (hw : w.length = n) (hws : ∀ w' ∈ ws, w'.length = n) (hG : ∀ y ∈ G, okRowN n y = true) (h : okZ n w ws G Z = true) (ih : ∀ x, Nul n ws x → Gen (inL n G) x) :
    (∀ y ∈ Z, okRowN n y = true) ∧ (∀ x, Nul n (w :: ws) x → Gen (inL n Z) x) ∧ ∀ y ∈ Z, ∀ w' ∈ w :: ws, valR w' y = 0 := by
  have C := clo_of hw hG h
  have hZ : ∀ z ∈ Z, okRowN n z = true ∧ valR w z = 0 ∧ ∀ w' ∈ ws, valR w' z = 0 := fun z hz => by
    unfold okZ at h
    rw [Bool.and_eq_true] at h
    have := List.all_eq_true.mp h.1 z hz
    rw [Bool.and_eq_true, Bool.and_eq_true] at this
    exact ⟨this.1, of_decide_eq_true this.2.1, fun w' hw' => of_decide_eq_true (List.all_eq_true.mp this.2.2 w' hw')⟩
  refine ⟨fun y hy => (hZ y hy).1, fun x hx => ?_, fun y hy w' hw' => ?_⟩
  rotate_left
  · rcases List.mem_cons.mp hw' with q | q
    · rw [q]; exact (hZ y hy).2.1
    · exact (hZ y hy).2.2 w' q
  refine made (n := n) (valW_add w) C (M := Nul n ws) (fun x hx => ⟨hx.1, ih x hx⟩) (fun x y hx hy f => nul_sub hx hy f) (fun z ⟨r, hr, hl, e⟩ => ?_) (mu := fun x => (sm n x).toNat) (fun x z hx ⟨r, hr, hl, e⟩ f => ?_) _ x (Nat.le_refl _) ⟨hx.1, fun w' hw' => hx.2 w' (List.mem_cons_of_mem _ hw')⟩ (hx.2 w List.mem_cons_self)
  · subst e
    exact ⟨(row_ld (hZ r hr).1).2.1, fun w' hw' => by rw [← valR_eq ((hws w' hw').trans hl.symm)]; exact (hZ r hr).2.2 w' hw'⟩
  · subst e
    obtain ⟨_, l, i, hi⟩ := row_ld (hZ r hr).1
    have hin : i < n := by
      refine Classical.byContradiction fun c => ?_
      have := l.2 i (by omega)
      omega
    have h1 := sm_one (g := n) (x := vec r) (i := i) (fun i _ => l.1 i) hin
    have h2 : sm n (sb x (vec r)) = sm n x - sm n (vec r) := sm_sub
    have h3 : sm n (vec r) ≤ sm n x := sm_le fun i _ => f i
    show (sm n (sb x (vec r))).toNat < (sm n x).toNat
    omega
theorem lvls_ok {n : Nat} : ∀ {rest ws G Z : List Row}, (∀ w ∈ rest, w.length = n) → (∀ w ∈ ws, w.length = n) → (∀ y ∈ G, okRowN n y = true) → (∀ x, Nul n ws x → Gen (inL n G) x) → (∀ y ∈ G, ∀ w ∈ ws, valR w y = 0) → lvls n rest ws G = some Z →
    (∀ y ∈ Z, okRowN n y = true) ∧ (∀ x, Ld n x → (∀ w ∈ ws, valW w x = 0) → (∀ w ∈ rest, valW w x = 0) → Gen (inL n Z) x) ∧ ∀ y ∈ Z, (∀ w ∈ ws, valR w y = 0) ∧ ∀ w ∈ rest, valR w y = 0
  | [], ws, G, Z, _, hws, hG, ih, hv, h => by
    cases h
    exact ⟨hG, fun x hx h1 _ => ih x ⟨hx, h1⟩, fun y hy => ⟨hv y hy, fun w hw => by cases hw⟩⟩
  | w :: rest, ws, G, Z, hr, hws, hG, ih, hv, h => by
    unfold lvls at h
    by_cases c : okZ n w ws G (nextZ w G) = true
    · have h : (if okZ n w ws G (nextZ w G) = true then lvls n rest (w :: ws) (nextZ w G) else none) = some Z := h
      rw [if_pos c] at h
      obtain ⟨k1, k2, k3⟩ := lvl_up (hr w List.mem_cons_self) hws hG c ih
      obtain ⟨j1, j2, j3⟩ := lvls_ok (fun w' hw' => hr w' (List.mem_cons_of_mem _ hw')) (fun w' hw' => by
        rcases List.mem_cons.mp hw' with e | e
        · rw [e]; exact hr w List.mem_cons_self
        · exact hws w' e) k1 k2 k3 h
      refine ⟨j1, fun x hx h1 h2 => j2 x hx (fun w' hw' => ?_) fun w' hw' => h2 w' (List.mem_cons_of_mem _ hw'), fun y hy => ⟨fun w' hw' => (j3 y hy).1 w' (List.mem_cons_of_mem _ hw'), fun w' hw' => ?_⟩⟩
      rotate_left
      · rcases List.mem_cons.mp hw' with q | q
        · rw [q]; exact (j3 y hy).1 w List.mem_cons_self
        · exact (j3 y hy).2 w' q
      rcases List.mem_cons.mp hw' with e | e
      · rw [e]; exact h2 w List.mem_cons_self
      · exact h1 w' e
    · have h : (if okZ n w ws G (nextZ w G) = true then lvls n rest (w :: ws) (nextZ w G) else none) = some Z := h
      rw [if_neg c] at h
      cases h
theorem unR_len {i n : Nat} : (unR i n).length = n := by unfold unR; rw [List.length_map, List.length_range]
theorem vec_unR {i n : Nat} (h : i < n) : vec (unR i n) = un i := by
  funext j
  show (unR i n).getD j 0 = if j = i then 1 else 0
  unfold unR
  rw [List.getD_eq_getElem?_getD, List.getElem?_map]
  by_cases c : j < n
  · rw [List.getElem?_range c]
    rfl
  · rw [List.getElem?_eq_none (by rw [List.length_range]; omega), if_neg (by omega)]
    rfl
theorem unR_ok {i n : Nat} (h : i < n) : okRowN n (unR i n) = true := by
  unfold okRowN
  rw [unR_len, decide_eq_true rfl, Bool.true_and, Bool.and_eq_true]
  constructor
  · rw [List.all_eq_true]
    intro x hx
    unfold unR at hx
    obtain ⟨j, _, rfl⟩ := List.mem_map.mp hx
    exact decide_eq_true (by split <;> omega)
  · rw [List.any_eq_true]
    refine ⟨1, List.mem_map.mpr ⟨i, List.mem_range.mpr h, if_pos rfl⟩, by decide⟩
theorem gen_units {n : Nat} : ∀ (t : Nat) (x : Vec), (sm n x).toNat ≤ t → Ld n x → Gen (inL n (unitsN n)) x := by
  intro t
  induction t with
  | zero =>
    intro x ht hx
    refine ⟨[], (fun y hy => by cases hy), funext fun i => ?_⟩
    show x i = 0
    by_cases c : i < n
    · have := sm_one (g := n) (x := x) (i := i) (fun i _ => hx.1 i) c
      have := hx.1 i
      omega
    · exact hx.2 i (by omega)
  | succ t ih =>
    intro x ht hx
    by_cases c : ∃ i, 0 < x i
    · obtain ⟨i, hi⟩ := c
      have hin : i < n := by
        refine Classical.byContradiction fun z => ?_
        have := hx.2 i (by omega)
        omega
      have f : Fit (un i) x := fun j => by
        unfold un
        by_cases q : j = i
        · rw [if_pos q, q]; omega
        · rw [if_neg q]; exact hx.1 j
      have l := fit_ld (ld_un hin) hx f
      have h1 : sm n (sb x (un i)) = sm n x - 1 := by rw [sm_sub, sm_un1 hin]
      obtain ⟨r, hr, e⟩ := ih _ (by omega) l
      refine ⟨un i :: r, fun y hy => ?_, ?_⟩
      · rcases List.mem_cons.mp hy with q | q
        · rw [q]
          exact ⟨unR i n, List.mem_map.mpr ⟨i, List.mem_range.mpr hin, rfl⟩, unR_len, (vec_unR hin).symm⟩
        · exact hr y q
      · show x = ad (un i) (sumV r)
        rw [← e]
        funext j
        show x j = un i j + (x j - un i j)
        omega
    · refine ⟨[], (fun y hy => by cases hy), funext fun i => ?_⟩
      have := hx.1 i
      have : ¬ 0 < x i := fun z => c ⟨i, z⟩
      show x i = 0
      omega
/-! ### a lot's columns, with a side for each -/
def wOf : List Row → List Bool → Nat → Row
  | c :: cs, p :: ps, j => (if p = true then c.getD j 0 else -c.getD j 0) :: wOf cs ps j
  | _, _, _ => []
theorem wOf_len : ∀ {cs : List Row} {ps : List Bool} {j : Nat}, ps.length = cs.length → (wOf cs ps j).length = cs.length
  | [], [], _, _ => rfl
  | _ :: cs, _ :: ps, j, e => by
    show (wOf cs ps j).length + 1 = cs.length + 1
    rw [wOf_len (Nat.succ.inj e)]
  | [], _ :: _, _, e => by cases e
  | _ :: _, [], _, e => by cases e
theorem w_val {j : Nat} : ∀ {cs : List Row} {ps : List Bool} {u v : Vec}, ps.length = cs.length → (∀ i, i < cs.length → if ps.getD i false = true then v i = 0 else u i = 0) → valW (wOf cs ps j) (ad u v) = Lb cs u j - Lb cs v j
  | [], [], _, _, _, _ => rfl
  | c :: cs, p :: ps, u, v, e, h => by
    have e' := Nat.succ.inj e
    have ih := w_val (j := j) (cs := cs) (ps := ps) (u := sh u) (v := sh v) e' fun i hi => h (i + 1) (by show i + 1 < cs.length + 1; omega)
    have h0 := h 0 (by show 0 < cs.length + 1; omega)
    have hl := wOf_len (j := j) e'
    unfold valW at ih ⊢
    show sm ((wOf cs ps j).length + 1) _ = _
    rw [sm_sh]
    have ih' : sm (wOf cs ps j).length (sh fun i => vec (wOf (c :: cs) (p :: ps) j) i * ad u v i) = Lb cs (sh u) j - Lb cs (sh v) j := ih
    rw [ih']
    show (if p = true then c.getD j 0 else -c.getD j 0) * (u 0 + v 0) + (Lb cs (sh u) j - Lb cs (sh v) j) = (u 0 * c.getD j 0 + Lb cs (sh u) j) - (v 0 * c.getD j 0 + Lb cs (sh v) j)
    have h0' : if p = true then v 0 = 0 else u 0 = 0 := h0
    by_cases q : p = true
    · rw [if_pos q] at h0' ⊢
      rw [h0']
      grind
    · rw [if_neg q] at h0' ⊢
      rw [h0']
      grind
  | [], _ :: _, _, _, e, _ => by cases e
  | _ :: _, [], _, _, e, _ => by cases e
def upP : List Bool → Row → Int
  | p :: ps, x :: xs => (if p = true then x else 0) + upP ps xs
  | _, _ => 0
theorem up_sm : ∀ {ps : List Bool} {z : Row} {u v : Vec}, ps.length = z.length → vec z = ad u v → (∀ i, i < z.length → if ps.getD i false = true then v i = 0 else u i = 0) → upP ps z = sm z.length u
  | [], [], _, _, _, _, _ => rfl
  | p :: ps, x :: xs, u, v, e, he, h => by
    have ih := up_sm (ps := ps) (z := xs) (u := sh u) (v := sh v) (Nat.succ.inj e) (by
      funext i
      exact congrFun he (i + 1)) fun i hi => h (i + 1) (by show i + 1 < xs.length + 1; omega)
    have h0 : if p = true then v 0 = 0 else u 0 = 0 := h 0 (by show 0 < xs.length + 1; omega)
    have x0 : x = u 0 + v 0 := congrFun he 0
    show (if p = true then x else 0) + upP ps xs = sm (xs.length + 1) u
    rw [ih, sm_sh]
    by_cases q : p = true
    · rw [if_pos q] at h0 ⊢
      omega
    · rw [if_neg q] at h0 ⊢
      omega
  | [], _ :: _, _, _, e, _, _ => by cases e
  | _ :: _, [], _, _, e, _, _ => by cases e
def patN : Nat → List (List Bool)
  | 0 => [[]]
  | n + 1 => (patN n).flatMap fun p => [true :: p, false :: p]
theorem pat_mem : ∀ {n : Nat} {p : List Bool}, p.length = n → p ∈ patN n
  | 0, [], _ => List.mem_singleton.mpr rfl
  | n + 1, b :: p, e => by
    refine List.mem_flatMap.mpr ⟨p, pat_mem (Nat.succ.inj e), ?_⟩
    cases b
    · exact List.mem_cons_of_mem _ (List.mem_singleton.mpr rfl)
    · exact List.mem_cons_self
  | 0, _ :: _, e => by cases e
  | _ + 1, [], e => by cases e
/-- all loads without parts over these columns are small -/
def fewC (cs : List Row) (g D : Nat) : Bool := (patN cs.length).all fun p => match lvls cs.length ((List.range g).map (wOf cs p)) [] (unitsN cs.length) with
  | some Z => Z.all fun z => decide (upP p z ≤ (D : Int))
  | none => false
def unitsG (g : Nat) : List Row := (List.range g).map fun i => unR i g
theorem few_cols {cs : List Row} {g D : Nat} (h : fewC cs g D = true) {u v : Vec} (hu : Ld cs.length u) (hv : Ld cs.length v) (e : ∀ j, j < g → Lb cs u j = Lb cs v j) (ap : ∀ i, u i = 0 ∨ v i = 0) (hne : ∃ i, 0 < ad u v i)
    (np : ∀ a b, Ld cs.length a → Ld cs.length b → Fit a u → Fit b v → (∀ j, j < g → Lb cs a j = Lb cs b j) → (∃ i, 0 < ad a b i) → a = u ∧ b = v) : sm cs.length u ≤ D := by
  let p : List Bool := (List.range cs.length).map fun i => decide (0 < u i)
  have pl : p.length = cs.length := by simp [p]
  have side : ∀ i, i < cs.length → if p.getD i false = true then v i = 0 else u i = 0 := fun i hi => by
    have : p.getD i false = decide (0 < u i) := by
      show ((List.range cs.length).map fun i => decide (0 < u i)).getD i false = _
      rw [List.getD_eq_getElem?_getD, List.getElem?_map, List.getElem?_range hi]
      rfl
    rw [this]
    have := hu.1 i
    by_cases c : 0 < u i
    · rw [if_pos (decide_eq_true c)]
      rcases ap i with q | q
      · omega
      · exact q
    · rw [if_neg (by simpa using c)]
      omega
  have hp := List.all_eq_true.mp h p (pat_mem pl)
  cases hz : lvls cs.length ((List.range g).map (wOf cs p)) [] (unitsN cs.length) with
  | none => rw [hz] at hp; cases hp
  | some Z =>
    rw [hz] at hp
    have hp : (Z.all fun z => decide (upP p z ≤ (D : Int))) = true := hp
    have lw : ∀ w ∈ (List.range g).map (wOf cs p), w.length = cs.length := fun w hw => by
      obtain ⟨j, _, rfl⟩ := List.mem_map.mp hw
      exact wOf_len pl
    obtain ⟨k1, k2, k3⟩ := lvls_ok lw (fun w hw => by cases hw) (fun y hy => by
      obtain ⟨i, hi, rfl⟩ := List.mem_map.mp hy
      exact unR_ok (List.mem_range.mp hi)) (fun x hx => gen_units _ x (Nat.le_refl _) hx.1) (fun y _ w hw => by cases hw) hz
    have lx : Ld cs.length (ad u v) := ⟨fun i => by have := hu.1 i; have := hv.1 i; show 0 ≤ u i + v i; omega, fun i hi => by show u i + v i = 0; rw [hu.2 i hi, hv.2 i hi]; rfl⟩
    obtain ⟨l, hl, el⟩ := k2 (ad u v) lx (fun w hw => by cases hw) (fun w hw => by
      obtain ⟨j, hj, rfl⟩ := List.mem_map.mp hw
      rw [w_val pl side, e j (List.mem_range.mp hj)]
      omega)
    cases l with
    | nil =>
      obtain ⟨i, hi⟩ := hne
      rw [el] at hi
      exact absurd hi (by show ¬ (0 : Int) < 0; omega)
    | cons y r =>
      obtain ⟨z, hzm, hzl, rfl⟩ := hl y List.mem_cons_self
      have zok := row_ld (k1 z hzm)
      have fz : Fit (vec z) (ad u v) := fun i => by
        rw [el]
        have := sumV_nn (l := r) (fun w hw => by
          obtain ⟨z', hz', _, rfl⟩ := hl w (List.mem_cons_of_mem _ hw)
          exact (row_ld (k1 z' hz')).2.1.1) i
        show vec z i ≤ vec z i + sumV r i
        omega
      -- its two sides
      let a : Vec := fun i => if 0 < u i then vec z i else 0
      let b : Vec := fun i => if 0 < u i then 0 else vec z i
      have eab : vec z = ad a b := by
        funext i
        show vec z i = (if 0 < u i then vec z i else 0) + (if 0 < u i then 0 else vec z i)
        split <;> omega
      have la : Ld cs.length a := ⟨fun i => by have := zok.2.1.1 i; show 0 ≤ if 0 < u i then vec z i else 0; split <;> omega, fun i hi => by have := zok.2.1.2 i hi; show (if 0 < u i then vec z i else 0) = 0; split <;> omega⟩
      have lb : Ld cs.length b := ⟨fun i => by have := zok.2.1.1 i; show 0 ≤ if 0 < u i then 0 else vec z i; split <;> omega, fun i hi => by have := zok.2.1.2 i hi; show (if 0 < u i then 0 else vec z i) = 0; split <;> omega⟩
      have fa : Fit a u := fun i => by
        have h1 := fz i
        have h2 : vec z i ≤ u i + v i := h1
        have := hu.1 i
        show (if 0 < u i then vec z i else 0) ≤ u i
        split
        · rcases ap i with q | q <;> omega
        · omega
      have fb : Fit b v := fun i => by
        have h1 := fz i
        have h2 : vec z i ≤ u i + v i := h1
        have := hv.1 i
        have := hu.1 i
        show (if 0 < u i then 0 else vec z i) ≤ v i
        split <;> omega
      have sideZ : ∀ i, i < cs.length → if p.getD i false = true then b i = 0 else a i = 0 := fun i hi => by
        have h1 := side i hi
        have : p.getD i false = decide (0 < u i) := by
          show ((List.range cs.length).map fun i => decide (0 < u i)).getD i false = _
          rw [List.getD_eq_getElem?_getD, List.getElem?_map, List.getElem?_range hi]
          rfl
        rw [this]
        show if decide (0 < u i) = true then (if 0 < u i then 0 else vec z i) = 0 else (if 0 < u i then vec z i else 0) = 0
        by_cases c : 0 < u i
        · rw [if_pos (decide_eq_true c), if_pos c]
        · rw [if_neg (by simpa using c), if_neg c]
      have hbil : ∀ j, j < g → Lb cs a j = Lb cs b j := fun j hj => by
        have h1 := (k3 z hzm).2 (wOf cs p j) (List.mem_map.mpr ⟨j, List.mem_range.mpr hj, rfl⟩)
        rw [valR_eq ((wOf_len pl).trans hzl.symm), eab, w_val pl sideZ] at h1
        omega
      obtain ⟨i, hi⟩ := zok.2.2
      obtain ⟨ea, eb⟩ := np a b la lb fa fb hbil ⟨i, by rw [← eab]; exact hi⟩
      rw [ea, eb] at eab
      have := of_decide_eq_true (List.all_eq_true.mp hp z hzm)
      rw [up_sm (pl.trans hzl.symm) eab (by rw [hzl]; exact side), hzl] at this
      exact this
end BL
end HL

namespace HL
namespace BL
/-! columns told twice, or in another order -/
def push (f : Nat → Nat) (x : Vec) : Nat → Vec
  | 0 => fun _ => 0
  | n + 1 => ad (push f x n) fun t => x n * un (f n) t
theorem push_nn {f : Nat → Nat} {x : Vec} (hx : ∀ i, 0 ≤ x i) : ∀ n t, 0 ≤ push f x n t
  | 0, _ => Int.le_refl _
  | n + 1, t => by
    have h1 := push_nn (f := f) hx n t
    have h2 : 0 ≤ x n * un (f n) t := Int.mul_nonneg (hx n) (by unfold un; split <;> decide)
    show 0 ≤ push f x n t + x n * un (f n) t
    omega
theorem push_out {f : Nat → Nat} {x : Vec} {m : Nat} : ∀ {n : Nat}, (∀ i, i < n → f i < m) → ∀ t, m ≤ t → push f x n t = 0
  | 0, _, _, _ => rfl
  | n + 1, hf, t, ht => by
    have h1 := push_out (x := x) (n := n) (fun i hi => hf i (by omega)) t ht
    have h2 := hf n (by omega)
    show push f x n t + x n * un (f n) t = 0
    rw [h1]
    unfold un
    rw [if_neg (by omega)]
    omega
theorem push_add {f : Nat → Nat} {x y : Vec} : ∀ n, push f (ad x y) n = ad (push f x n) (push f y n)
  | 0 => by
    funext t
    rfl
  | n + 1 => by
    funext t
    have := congrFun (push_add (f := f) (x := x) (y := y) n) t
    show push f (ad x y) n t + (x n + y n) * un (f n) t = (push f x n t + x n * un (f n) t) + (push f y n t + y n * un (f n) t)
    rw [this, Int.add_mul]
    show push f x n t + push f y n t + _ = _
    omega
theorem push_un {f : Nat → Nat} {i : Nat} : ∀ n, push f (un i) n = if i < n then un (f i) else fun _ => 0
  | 0 => by
    rw [if_neg (by omega)]
    rfl
  | n + 1 => by
    funext t
    have ih := congrFun (push_un (f := f) (i := i) n) t
    show push f (un i) n t + un i n * un (f n) t = _
    rw [ih]
    by_cases c : i < n
    · rw [if_pos c, if_pos (by omega)]
      have : un i n = 0 := by unfold un; rw [if_neg (by omega)]
      rw [this]
      omega
    · rw [if_neg c]
      by_cases d : i = n
      · subst d
        rw [if_pos (by omega)]
        have : un i i = 1 := by unfold un; rw [if_pos rfl]
        rw [this]
        show 0 + 1 * un (f i) t = un (f i) t
        omega
      · rw [if_neg (by omega)]
        have : un i n = 0 := by unfold un; rw [if_neg (by omega)]
        rw [this]
        show (0 : Int) + 0 * un (f n) t = 0
        omega
theorem push_lt {f : Nat → Nat} {a u : Vec} {t : Nat} : ∀ {n : Nat}, push f a n t < push f u n t → ∃ i, i < n ∧ f i = t ∧ a i < u i
  | 0, h => by
    have h : (0 : Int) < 0 := h
    omega
  | n + 1, h => by
    by_cases c : push f a n t < push f u n t
    · obtain ⟨i, h1, h2, h3⟩ := push_lt c
      exact ⟨i, by omega, h2, h3⟩
    · have h : push f a n t + a n * un (f n) t < push f u n t + u n * un (f n) t := h
      by_cases d : t = f n
      · refine ⟨n, by omega, d.symm, ?_⟩
        have : un (f n) t = 1 := by unfold un; rw [if_pos d]
        rw [this] at h
        omega
      · have : un (f n) t = 0 := by unfold un; rw [if_neg d]
        rw [this] at h
        omega
theorem sm_cun {c : Int} {t m : Nat} (h : t < m) : sm m (fun i => c * un t i) = c := by
  rw [sm_mul, sm_un1 h, Int.mul_one]
theorem push_sm {f : Nat → Nat} {x : Vec} {m : Nat} : ∀ {n : Nat}, (∀ i, i < n → f i < m) → sm m (push f x n) = sm n x
  | 0, _ => sm_zero
  | n + 1, hf => by
    show sm m (ad (push f x n) fun t => x n * un (f n) t) = sm n x + x n
    rw [sm_add, push_sm fun i hi => hf i (by omega), sm_cun (hf n (by omega))]
theorem Lb_mul {j : Nat} {c : Int} : ∀ {ll : List (List Int)} {x : Vec}, Lb ll (fun i => c * x i) j = c * Lb ll x j
  | [], _ => by
    show (0 : Int) = c * 0
    omega
  | h :: t, x => by
    have ih := Lb_mul (j := j) (c := c) (ll := t) (x := sh x)
    show c * x 0 * h.getD j 0 + Lb t (sh fun i => c * x i) j = c * (x 0 * h.getD j 0 + Lb t (sh x) j)
    have e : (sh fun i => c * x i) = fun i => c * sh x i := rfl
    rw [e, ih, Int.mul_add, Int.mul_assoc]
theorem push_Lb {f : Nat → Nat} {x : Vec} {cs : List Row} {j : Nat} : ∀ {n : Nat}, (∀ i, i < n → f i < cs.length) → Lb cs (push f x n) j = sm n fun i => x i * (cs.getD (f i) []).getD j 0
  | 0, _ => Lb_zero fun _ _ => rfl
  | n + 1, hf => by
    show Lb cs (ad (push f x n) fun t => x n * un (f n) t) j = (sm n fun i => x i * (cs.getD (f i) []).getD j 0) + x n * (cs.getD (f n) []).getD j 0
    rw [Lb_add, push_Lb fun i hi => hf i (by omega), Lb_mul, Lb_un (hf n (by omega))]
theorem Lb_sm {j : Nat} : ∀ {cs : List Row} {x : Vec}, Lb cs x j = sm cs.length fun i => x i * (cs.getD i []).getD j 0
  | [], _ => rfl
  | h :: t, x => by
    have ih := Lb_sm (j := j) (cs := t) (x := sh x)
    show x 0 * h.getD j 0 + Lb t (sh x) j = sm (t.length + 1) _
    rw [sm_sh, ih]
    rfl
/-- a part of what is pushed comes from a part -/
theorem push_part {f : Nat → Nat} {n m : Nat} (hf : ∀ i, i < n → f i < m) {u : Vec} (hu : Ld n u) : ∀ (k : Nat) (a : Vec), (sm m a).toNat ≤ k → Ld m a → Fit a (push f u n) → ∃ a', Ld n a' ∧ Fit a' u ∧ push f a' n = a := by
  intro k
  induction k with
  | zero =>
    intro a hk ha fa
    refine ⟨fun _ => 0, ⟨fun _ => Int.le_refl _, fun _ _ => rfl⟩, hu.1, ?_⟩
    funext t
    have z : push f (fun _ => 0) n t = 0 := by
      have h1 := push_add (f := f) (x := fun _ => 0) (y := fun _ => 0) n
      have e : ad (fun _ => 0) (fun _ => (0 : Int)) = fun _ => (0 : Int) := by funext i; rfl
      rw [e] at h1
      have h2 := congrFun h1 t
      have h3 : push f (fun _ => 0) n t = push f (fun _ => 0) n t + push f (fun _ => 0) n t := h2
      omega
    rw [z]
    by_cases c : t < m
    · have := sm_one (g := m) (x := a) (i := t) (fun i _ => ha.1 i) c
      have := ha.1 t
      omega
    · exact (ha.2 t (by omega)).symm
  | succ k ih =>
    intro a hk ha fa
    by_cases c : ∃ t, 0 < a t
    · obtain ⟨t, ht⟩ := c
      have htm : t < m := by
        refine Classical.byContradiction fun z => ?_
        have := ha.2 t (by omega)
        omega
      have f1 : Fit (un t) a := fun j => by
        unfold un
        by_cases q : j = t
        · rw [if_pos q, q]; omega
        · rw [if_neg q]; exact ha.1 j
      have l := fit_ld (ld_un htm) ha f1
      have h1 : sm m (sb a (un t)) = sm m a - 1 := by rw [sm_sub, sm_un1 htm]
      obtain ⟨a', k1, k2, k3⟩ := ih (sb a (un t)) (by omega) l fun j => by
        have := fa j
        have := (ld_un htm).1 j
        show a j - un t j ≤ push f u n j
        omega
      have hlt : push f a' n t < push f u n t := by
        rw [k3]
        have h2 := fa t
        have h3 : un t t = 1 := by unfold un; rw [if_pos rfl]
        show a t - un t t < push f u n t
        omega
      obtain ⟨i, hi, hfi, hai⟩ := push_lt hlt
      refine ⟨ad a' (un i), ⟨fun j => ?_, fun j hj => ?_⟩, fun j => ?_, ?_⟩
      · have := k1.1 j
        have := (ld_un hi).1 j
        show 0 ≤ a' j + un i j
        omega
      · show a' j + un i j = 0
        rw [k1.2 j hj, (ld_un hi).2 j hj]
        rfl
      · have := k2 j
        show a' j + un i j ≤ u j
        unfold un
        by_cases q : j = i
        · rw [if_pos q, q]; omega
        · rw [if_neg q]; omega
      · rw [push_add, k3, push_un, if_pos hi, hfi]
        funext j
        show a j - un t j + un t j = a j
        omega
    · refine ⟨fun _ => 0, ⟨fun _ => Int.le_refl _, fun _ _ => rfl⟩, hu.1, ?_⟩
      funext t
      have z : push f (fun _ => 0) n t = 0 := by
        have h1 := push_add (f := f) (x := fun _ => 0) (y := fun _ => 0) n
        have e : ad (fun _ => 0) (fun _ => (0 : Int)) = fun _ => (0 : Int) := by funext i; rfl
        rw [e] at h1
        have h2 := congrFun h1 t
        have h3 : push f (fun _ => 0) n t = push f (fun _ => 0) n t + push f (fun _ => 0) n t := h2
        omega
      rw [z]
      have := ha.1 t
      have : ¬ 0 < a t := fun w => c ⟨t, w⟩
      omega
/-- what holds of a set of columns holds of columns out of it -/
theorem few_push {cols cs : List Row} {g D : Nat} (h : fewC cs g D = true) (D1 : 1 ≤ D) {f : Nat → Nat} (hf : ∀ i, i < cols.length → f i < cs.length ∧ cs.getD (f i) [] = cols.getD i []) {u v : Vec} (hu : Ld cols.length u) (hv : Ld cols.length v) (e : ∀ j, j < g → Lb cols u j = Lb cols v j) (hne : ∃ i, 0 < ad u v i)
    (np : ∀ a b, Ld cols.length a → Ld cols.length b → Fit a u → Fit b v → (∀ j, j < g → Lb cols a j = Lb cols b j) → (∃ i, 0 < ad a b i) → a = u ∧ b = v) : sm cols.length u ≤ D := by
  have hf1 : ∀ i, i < cols.length → f i < cs.length := fun i hi => (hf i hi).1
  have lb : ∀ x j, Lb cs (push f x cols.length) j = Lb cols x j := fun x j => by
    rw [push_Lb hf1, Lb_sm]
    exact sm_congr fun i hi => by rw [(hf i hi).2]
  have ldp : ∀ {x}, Ld cols.length x → Ld cs.length (push f x cols.length) := fun {x} hx => ⟨push_nn hx.1 _, push_out hf1⟩
  have z0 : ∀ t, push f (fun _ => 0) cols.length t = 0 := fun t => by
    have h1 := push_add (f := f) (x := fun _ => 0) (y := fun _ => 0) cols.length
    have e : ad (fun _ => 0) (fun _ => (0 : Int)) = fun _ => (0 : Int) := by funext i; rfl
    rw [e] at h1
    have h2 := congrFun h1 t
    have h3 : push f (fun _ => 0) cols.length t = push f (fun _ => 0) cols.length t + push f (fun _ => 0) cols.length t := h2
    omega
  have some_ : ∀ {x : Vec} {t}, 0 < push f x cols.length t → ∃ i, i < cols.length ∧ f i = t ∧ 0 < x i := fun {x t} ht => push_lt (a := fun _ => 0) (by rw [z0]; exact ht)
  by_cases c : ∃ t, 0 < push f u cols.length t ∧ 0 < push f v cols.length t
  · obtain ⟨t, h1, h2⟩ := c
    obtain ⟨i, hi, hfi, hui⟩ := some_ h1
    obtain ⟨i', hi', hfi', hvi⟩ := some_ h2
    have fu : ∀ {x : Vec} {i}, Ld cols.length x → 0 < x i → Fit (un i) x := fun {x i} hx hxi j => by
      unfold un
      by_cases c : j = i
      · rw [if_pos c, c]; omega
      · rw [if_neg c]; exact hx.1 j
    obtain ⟨e1, _⟩ := np (un i) (un i') (ld_un hi) (ld_un hi') (fu hu hui) (fu hv hvi) (fun j hj => by rw [Lb_un hi, Lb_un hi', ← (hf i hi).2, ← (hf i' hi').2, hfi, hfi']) ⟨i, by
      have := (ld_un (n := cols.length) hi').1 i
      show 0 < un i i + un i' i
      have e1 : un i i = 1 := by unfold un; rw [if_pos rfl]
      omega⟩
    rw [← e1, sm_un1 hi]
    omega
  · rw [← push_sm hf1]
    refine few_cols h (ldp hu) (ldp hv) (fun j hj => by rw [lb, lb]; exact e j hj) (fun t => ?_) ?_ fun a b ha hb fa fb eb ⟨t, ht⟩ => ?_
    · have h1 := (ldp hu).1 t
      have h2 := (ldp hv).1 t
      by_cases q : 0 < push f u cols.length t
      · right
        have : ¬ 0 < push f v cols.length t := fun w => c ⟨t, q, w⟩
        omega
      · left
        omega
    · obtain ⟨i, hi⟩ := hne
      have hi : 0 < u i + v i := hi
      have hin : i < cols.length := by
        refine Classical.byContradiction fun z => ?_
        have := hu.2 i (by omega)
        have := hv.2 i (by omega)
        omega
      refine Classical.byContradiction fun no => ?_
      have hz : ∀ t, push f (ad u v) cols.length t = 0 := fun t => by
        rw [push_add]
        have h1 := (ldp hu).1 t
        have h2 := (ldp hv).1 t
        have : ¬ 0 < ad (push f u cols.length) (push f v cols.length) t := fun w => no ⟨t, w⟩
        have h3 : ¬ 0 < push f u cols.length t + push f v cols.length t := this
        show push f u cols.length t + push f v cols.length t = 0
        omega
      have h1 := push_sm (x := ad u v) hf1
      rw [sm_congr (y := fun _ => 0) fun t _ => hz t, sm_zero] at h1
      have h2 := sm_one (g := cols.length) (x := ad u v) (i := i) (fun i _ => by have := hu.1 i; have := hv.1 i; show 0 ≤ u i + v i; omega) hin
      have h3 : u i + v i ≤ _ := h2
      omega
    · obtain ⟨a', k1, k2, k3⟩ := push_part hf1 hu _ a (Nat.le_refl _) ha fa
      obtain ⟨b', l1, l2, l3⟩ := push_part hf1 hv _ b (Nat.le_refl _) hb fb
      have hn : ∃ i, 0 < ad a' b' i := by
        have ht : 0 < a t + b t := ht
        have h1 := ha.1 t
        have h2 := hb.1 t
        by_cases q : 0 < a t
        · rw [← k3] at q
          obtain ⟨i, _, _, hi⟩ := some_ q
          have := l1.1 i
          exact ⟨i, by show 0 < a' i + b' i; omega⟩
        · have q2 : 0 < b t := by omega
          rw [← l3] at q2
          obtain ⟨i, _, _, hi⟩ := some_ q2
          have := k1.1 i
          exact ⟨i, by show 0 < a' i + b' i; omega⟩
      obtain ⟨e1, e2⟩ := np a' b' k1 l1 k2 l2 (fun j hj => by rw [← lb, ← lb, k3, l3]; exact eb j hj) hn
      rw [← k3, ← l3, e1, e2]
      exact ⟨rfl, rfl⟩
end BL
end HL

namespace HL
namespace BL
/-! the laws' plain lots: loads without parts are small -/
theorem Lb_app {j : Nat} : ∀ {ll us : List Row} {x : Vec}, Lb (ll ++ us) x j = Lb ll x j + Lb us (fun i => x (ll.length + i)) j
  | [], us, x => by
    have e : (fun i => x (([] : List Row).length + i)) = x := by
      funext i
      show x (0 + i) = x i
      rw [Nat.zero_add]
    rw [e]
    show Lb us x j = 0 + Lb us x j
    omega
  | h :: t, us, x => by
    have ih := Lb_app (j := j) (ll := t) (us := us) (x := sh x)
    have e : (fun i => sh x (t.length + i)) = fun i => x ((h :: t).length + i) := by
      funext i
      show x (t.length + i + 1) = x (t.length + 1 + i)
      congr 1
      omega
    rw [e] at ih
    show x 0 * h.getD j 0 + Lb (t ++ us) (sh x) j = (x 0 * h.getD j 0 + Lb t (sh x) j) + _
    rw [ih]
    omega
theorem Lb_unit {g j : Nat} (hj : j < g) (x : Vec) : Lb (unitsG g) x j = x j := by
  have hl : (unitsG g).length = g := by unfold unitsG; rw [List.length_map, List.length_range]
  rw [Lb_sm, hl]
  rw [sm_congr (y := fun i => x j * un j i) fun i hi => ?_]
  · exact sm_cun hj
  · have : (unitsG g).getD i [] = unR i g := by
      unfold unitsG
      rw [List.getD_eq_getElem?_getD, List.getElem?_map, List.getElem?_range hi]
      rfl
    rw [this]
    have h2 : (unR i g).getD j 0 = un i j := congrFun (vec_unR hi) j
    rw [h2]
    unfold un
    by_cases c : j = i
    · rw [if_pos c, if_pos c.symm, c]
    · rw [if_neg c, if_neg fun q => c q.symm]
      omega
theorem units_len {g : Nat} : (unitsG g).length = g := by unfold unitsG; rw [List.length_map, List.length_range]
theorem Lb_cols {ll : List Row} {g j : Nat} (hj : j < g) (x : Vec) : Lb (ll ++ unitsG g) x j = Bv ll g x j := by
  rw [Lb_app, Lb_unit hj]
  unfold Bv
  rw [if_pos hj]
def subsK : List Row → Nat → List (List Row)
  | [], _ => [[]]
  | _ :: ks, 0 => subsK ks 0
  | k :: ks, n + 1 => subsK ks (n + 1) ++ (subsK ks n).map fun c => k :: c
theorem subsK_all {p : Row → Bool} : ∀ {ks : List Row} {n : Nat}, (ks.filter p).length ≤ n → ks.filter p ∈ subsK ks n
  | [], n, _ => by
    cases n <;> exact List.mem_singleton.mpr rfl
  | k :: ks, 0, h => by
    by_cases c : p k = true
    · rw [List.filter_cons_of_pos c, List.length_cons] at h
      omega
    · rw [List.filter_cons_of_neg c] at h ⊢
      exact subsK_all h
  | k :: ks, n + 1, h => by
    by_cases c : p k = true
    · rw [List.filter_cons_of_pos c] at h ⊢
      exact List.mem_append_right _ (List.mem_map.mpr ⟨_, subsK_all (by rw [List.length_cons] at h; omega), rfl⟩)
    · rw [List.filter_cons_of_neg c] at h ⊢
      exact List.mem_append_left _ (subsK_all h)
def chkF (g : Nat) (ks : List Row) (n D : Nat) : Bool := (subsK ks n).all fun s => fewC (s ++ unitsG g) g D
theorem nd_le {α : Type} [DecidableEq α] : ∀ {l k : List α}, l.Nodup → (∀ x ∈ l, x ∈ k) → l.length ≤ k.length
  | [], _, _, _ => Nat.zero_le _
  | x :: l, k, nd, h => by
    obtain ⟨n1, n2⟩ := List.nodup_cons.mp nd
    have hx := h x List.mem_cons_self
    have := nd_le (l := l) (k := k.erase x) n2 fun y hy => (List.mem_erase_of_ne (fun e => n1 (by rw [← e]; exact hy))).mpr (h y (List.mem_cons_of_mem _ hy))
    rw [List.length_erase_of_mem hx] at this
    have := List.length_pos_of_mem hx
    rw [List.length_cons]
    omega
/-- a load of something has an amount -/
theorem dg_pos {ll : List Row} {g : Nat} (L : Lot g ll) {x : Vec} (hx : Ld (ll.length + g) x) : 0 ≤ dgv ll g x ∧ (dgv ll g x ≤ 0 → ∀ i, x i = 0) := by
  have h1 := sm_dg (g := g) L hx.1
  have h2 := sm_nn (g := ll.length + g) (x := x) fun i _ => hx.1 i
  refine ⟨by omega, fun h i => ?_⟩
  by_cases c : i < ll.length + g
  · have := sm_one (g := ll.length + g) (x := x) (i := i) (fun i _ => hx.1 i) c
    have := hx.1 i
    omega
  · exact hx.2 i (by omega)
theorem few_lot {ll ks : List Row} {g nk D : Nat} (hk : chkF g ks nk D = true) (knd : ks.Nodup) (D1 : 1 ≤ D) (hlen : ll.length ≤ nk) (hin : ∀ h ∈ ll, h ∈ ks ∨ h ∈ unitsG g) (L : Lot g ll) {u v : Vec} (hu : Ld (ll.length + g) u) (hv : Ld (ll.length + g) v) (e : Bv ll g u = Bv ll g v) (ne : u ≠ v)
    (np : ∀ a b, Ld (ll.length + g) a → Ld (ll.length + g) b → Fit a u → Fit b v → Bv ll g a = Bv ll g b → dgv ll g a < dgv ll g u → a = b) : sm (ll.length + g) u ≤ D := by
  have hfl : (ks.filter fun h => decide (h ∈ ll)).length ≤ nk := Nat.le_trans (nd_le (knd.filter _) fun x hx => of_decide_eq_true (List.mem_filter.mp hx).2) hlen
  have hc := List.all_eq_true.mp hk _ (subsK_all hfl)
  have A := ax (b := fun _ => 0) (mu := fun _ => 0) L
  generalize hcs : (ks.filter fun h => decide (h ∈ ll)) ++ unitsG g = cs at hc
  have cl : (ll ++ unitsG g).length = ll.length + g := by rw [List.length_append, units_len]
  have mem : ∀ h ∈ ll ++ unitsG g, h ∈ cs := fun h hh => by
    rw [← hcs]
    rcases List.mem_append.mp hh with q | q
    · rcases hin h q with k | k
      · exact List.mem_append_left _ (List.mem_filter.mpr ⟨k, decide_eq_true q⟩)
      · exact List.mem_append_right _ k
    · exact List.mem_append_right _ q
  have pick : ∀ i, ∃ t, i < (ll ++ unitsG g).length → t < cs.length ∧ cs.getD t [] = (ll ++ unitsG g).getD i [] := fun i => by
    by_cases c : i < (ll ++ unitsG g).length
    · obtain ⟨t, ht, et⟩ := List.mem_iff_getElem.mp (mem _ (List.getElem_mem c))
      refine ⟨t, fun _ => ⟨ht, ?_⟩⟩
      rw [List.getD_eq_getElem?_getD, List.getD_eq_getElem?_getD, List.getElem?_eq_getElem ht, List.getElem?_eq_getElem c, et]
    · exact ⟨0, fun q => absurd q c⟩
  have hf := fun i => (Classical.choose_spec (pick i))
  rw [← cl] at hu hv np ⊢
  refine few_push (cols := ll ++ unitsG g) (g := g) hc D1 (f := fun i => Classical.choose (pick i)) (fun i hi => hf i hi) hu hv (fun j hj => by rw [Lb_cols hj, Lb_cols hj, e]) ?_ fun a b ha hb fa fb eb hab => ?_
  · refine Classical.byContradiction fun no => ne (funext fun i => ?_)
    have h1 := hu.1 i
    have h2 := hv.1 i
    have : ¬ 0 < ad u v i := fun z => no ⟨i, z⟩
    have h3 : ¬ 0 < u i + v i := this
    omega
  · have eB : Bv ll g a = Bv ll g b := by
      funext j
      by_cases c : j < g
      · rw [← Lb_cols c, ← Lb_cols c]
        exact eb j c
      · unfold Bv
        rw [if_neg c, if_neg c]
    have eda := A.dB _ _ eB
    have edu := A.dB _ _ e
    have la := fit_ld ha hu fa
    have lb := fit_ld hb hv fb
    have d1 := A.dsb u a
    have d2 := A.dsb v b
    rw [cl] at ha hb la lb
    by_cases lt : dgv ll g a < dgv ll g u
    · exfalso
      rw [cl] at np
      have e1 := np a b ha hb fa fb eB lt
      have p1 : 0 < dgv ll g a := by
        refine Classical.byContradiction fun z => ?_
        have z1 := (dg_pos L ha).2 (by omega)
        have z2 := (dg_pos L hb).2 (by omega)
        obtain ⟨i, hi⟩ := hab
        have hi : 0 < a i + b i := hi
        rw [z1 i, z2 i] at hi
        omega
      have e2 := np (sb u a) (sb v b) la lb (fun x => by have := ha.1 x; show u x - a x ≤ u x; omega) (fun x => by have := hb.1 x; show v x - b x ≤ v x; omega) (by rw [Bv_sub, Bv_sub, e, eB]) (by omega)
      refine ne (funext fun x => ?_)
      have h1 : u x - a x = v x - b x := congrFun e2 x
      have h2 := congrFun e1 x
      omega
    · have z1 := (dg_pos L la).2 (by omega)
      have z2 := (dg_pos L lb).2 (by omega)
      refine ⟨funext fun x => ?_, funext fun x => ?_⟩
      · have h1 : u x - a x = 0 := z1 x
        omega
      · have h1 : v x - b x = 0 := z2 x
        omega
end BL
end HL

set_option maxHeartbeats 0
namespace HL
namespace BL
/-! the laws' plain lots: one good to 4, two goods to 2, three goods to 1; three kinds each -/
def ks1 : List Row := [[2], [3], [4]]
def ks2 : List Row := [[0, 2], [1, 1], [1, 2], [2, 0], [2, 1], [2, 2]]
def ks3 : List Row := [[0, 1, 1], [1, 0, 1], [1, 1, 0], [1, 1, 1]]
theorem ks1_ok : chkF 1 ks1 3 9 = true := by decide +kernel
theorem ks3_ok : chkF 3 ks3 3 9 = true := by decide +kernel
theorem ks2_ok : chkF 2 ks2 3 9 = true := by decide +kernel
end BL
end HL

namespace HL
namespace BL
/-- a plain lot: at most three kinds; of one good at most 4, of two at most 2, of three at most 1 of each -/
def topP (g : Nat) : Int := if g = 1 then 4 else if g = 2 then 2 else 1
structure PlainL (g : Nat) (ll : List Row) : Prop where
  g1 : 1 ≤ g
  g3 : g ≤ 3
  n3 : ll.length ≤ 3
  lot : Lot g ll
  top : ∀ h ∈ ll, ∀ n ∈ h, n ≤ topP g
theorem kd1 {h : Row} (k : Kd 1 h) (t : ∀ n ∈ h, n ≤ 4) : h ∈ ks1 ∨ h ∈ unitsG 1 := by
  obtain ⟨e, h0, p, hp, hp0⟩ := k
  match h, e with
  | [x], _ =>
    have hx := List.mem_singleton.mp hp
    have t1 := t x List.mem_cons_self
    have c : x = 1 ∨ x = 2 ∨ x = 3 ∨ x = 4 := by omega
    rcases c with rfl | rfl | rfl | rfl
    · exact .inr (by decide)
    · exact .inl (by decide)
    · exact .inl (by decide)
    · exact .inl (by decide)
theorem kd2 {h : Row} (k : Kd 2 h) (t : ∀ n ∈ h, n ≤ 2) : h ∈ ks2 ∨ h ∈ unitsG 2 := by
  obtain ⟨e, h0, p, hp, hp0⟩ := k
  match h, e with
  | [x, y], _ =>
    have t1 := t x List.mem_cons_self
    have t2 := t y (List.mem_cons_of_mem _ List.mem_cons_self)
    have b1 := h0 x List.mem_cons_self
    have b2 := h0 y (List.mem_cons_of_mem _ List.mem_cons_self)
    have hpp : p = x ∨ p = y := by simpa using hp
    have c : x = 0 ∨ x = 1 ∨ x = 2 := by omega
    have d : y = 0 ∨ y = 1 ∨ y = 2 := by omega
    rcases c with rfl | rfl | rfl <;> rcases d with rfl | rfl | rfl <;> first | omega | exact .inl (by decide) | exact .inr (by decide)
theorem kd3 {h : Row} (k : Kd 3 h) (t : ∀ n ∈ h, n ≤ 1) : h ∈ ks3 ∨ h ∈ unitsG 3 := by
  obtain ⟨e, h0, p, hp, hp0⟩ := k
  match h, e with
  | [x, y, w], _ =>
    have t1 := t x List.mem_cons_self
    have t2 := t y (List.mem_cons_of_mem _ List.mem_cons_self)
    have t3 := t w (List.mem_cons_of_mem _ (List.mem_cons_of_mem _ List.mem_cons_self))
    have b1 := h0 x List.mem_cons_self
    have b2 := h0 y (List.mem_cons_of_mem _ List.mem_cons_self)
    have b3 := h0 w (List.mem_cons_of_mem _ (List.mem_cons_of_mem _ List.mem_cons_self))
    have hpp : p = x ∨ p = y ∨ p = w := by simpa using hp
    have c : x = 0 ∨ x = 1 := by omega
    have d : y = 0 ∨ y = 1 := by omega
    have f : w = 0 ∨ w = 1 := by omega
    rcases c with rfl | rfl <;> rcases d with rfl | rfl <;> rcases f with rfl | rfl <;> first | omega | exact .inl (by decide) | exact .inr (by decide)
theorem few_plain {g : Nat} {ll : List Row} (P : PlainL g ll) {u v : Vec} (hu : Ld (ll.length + g) u) (hv : Ld (ll.length + g) v) (e : Bv ll g u = Bv ll g v) (ne : u ≠ v)
    (np : ∀ a b, Ld (ll.length + g) a → Ld (ll.length + g) b → Fit a u → Fit b v → Bv ll g a = Bv ll g b → dgv ll g a < dgv ll g u → a = b) : sm (ll.length + g) u ≤ 9 := by
  have g1 := P.g1
  have g3 := P.g3
  have c : g = 1 ∨ g = 2 ∨ g = 3 := by omega
  rcases c with rfl | rfl | rfl
  · exact few_lot ks1_ok (by decide) (by decide) P.n3 (fun h hh => kd1 (P.lot h hh) (P.top h hh)) P.lot hu hv e ne np
  · exact few_lot ks2_ok (by decide) (by decide) P.n3 (fun h hh => kd2 (P.lot h hh) (P.top h hh)) P.lot hu hv e ne np
  · exact few_lot ks3_ok (by decide) (by decide) P.n3 (fun h hh => kd3 (P.lot h hh) (P.top h hh)) P.lot hu hv e ne np
end BL
end HL

namespace HL
namespace BL
/-! betterings: what a step needs is told with the best load of the same bill -/
section
variable {n : Nat} {B : Vec → Vec} {dg : Vec → Int} {Ok : Vec → Prop} {mu : Vec → Nat} {S : Vec → Prop}
/-- what a change takes out, what it puts in -/
def upV (s : Vec) : Vec := fun i => if s i < 0 then 0 else s i
def dnV (s : Vec) : Vec := fun i => if 0 < s i then 0 else -s i
theorem up_dn (s : Vec) : s = sb (upV s) (dnV s) := by
  funext i
  show s i = (if s i < 0 then 0 else s i) - (if 0 < s i then 0 else -s i)
  split <;> split <;> omega
theorem up_fit {s x : Vec} (hx : ∀ i, 0 ≤ x i) : Fit s x ↔ Fit (upV s) x := by
  constructor
  · intro h i
    have := h i
    have := hx i
    show (if s i < 0 then 0 else s i) ≤ x i
    split <;> omega
  · intro h i
    have h1 : (if s i < 0 then 0 else s i) ≤ x i := h i
    split at h1 <;> omega
theorem Rt.keep_mu (A : Ax n B dg Ok mu) (hS : ∀ s, S s → St n B Ok mu s) {x y : Vec} (h : Rt S x y) (hx : Ld n x) (ho : Ok x) : Ld n y ∧ B y = B x ∧ Ok y ∧ mu y ≤ mu x := by
  obtain ⟨l, b⟩ := rt_keeps A hS h hx
  exact ⟨l, b, A.okB _ _ b.symm ho, rt_mu A hS h hx ho⟩
/-- the needy load taken out, its best put in: a better load of the same bill -/
theorem bett (A : Ax n B dg Ok mu) (hS : ∀ s, S s → St n B Ok mu s) {x s t : Vec} (hx : Ld n x) (ho : Ok x) (hs : S s) (f : Fit s x) (rt : Rt S (dnV s) t) : Ld n (ad (sb x (upV s)) t) ∧ B (ad (sb x (upV s)) t) = B x ∧ Ok (ad (sb x (upV s)) t) ∧ mu (ad (sb x (upV s)) t) < mu x := by
  have fp := (up_fit hx.1).mp f
  have e0 : ∀ i, 0 ≤ sb x (upV s) i := fun i => by
    have := fp i
    show 0 ≤ x i - upV s i
    omega
  have h1 := rt.add (e := sb x (upV s)) e0
  have e1 : ad (dnV s) (sb x (upV s)) = sb x s := by
    funext i
    have := congrFun (up_dn s) i
    have h2 : s i = upV s i - dnV s i := this
    show dnV s i + (x i - upV s i) = x i - s i
    omega
  have e2 : ad t (sb x (upV s)) = ad (sb x (upV s)) t := by
    funext i
    show t i + (x i - upV s i) = (x i - upV s i) + t i
    omega
  rw [e1, e2] at h1
  have ls := ld_step (hS s hs) hx f
  have bs := b_step A (x := x) (hS s hs)
  have os := A.okB _ _ bs.symm ho
  obtain ⟨k1, k2, k3, k4⟩ := h1.keep_mu A hS ls os
  have := (hS s hs).dec x hx ho f
  exact ⟨k1, k2.trans bs, k3, by omega⟩
/-- a load that no needy load is within is the best of its bill -/
theorem none_needy (A : Ax n B dg Ok mu) (hS : ∀ s, S s → St n B Ok mu s) {kinds : Nat} {hold : Nat → Vec} (M : Hm n kinds B hold) (F : Full n kinds Ok hold S) {x y : Vec} (hx : Ld n x) (ho : Ok x) (no : ∀ s, S s → ¬ Fit (upV s) x) (hy : Ld n y) (hb : B y = B x) : mu x ≤ mu y :=
  best_of A hS M F hx ho (fun s hs f => no s hs ((up_fit hx.1).mp f)) hy hb
end
end BL
end HL

set_option maxHeartbeats 0
namespace HL
namespace BL
/-! small lots: four kinds of one good to 3, of two goods to 2 -/
def kq1 : List Row := [[2], [3]]
theorem kq1_ok : chkF 1 kq1 4 9 = true := by decide +kernel
theorem kq2_0 : fewC ([[0, 2], [1, 1], [1, 2], [2, 0]] ++ unitsG 2) 2 9 = true := by decide +kernel
theorem kq2_1 : fewC ([[0, 2], [1, 1], [1, 2], [2, 1]] ++ unitsG 2) 2 9 = true := by decide +kernel
theorem kq2_2 : fewC ([[0, 2], [1, 1], [1, 2], [2, 2]] ++ unitsG 2) 2 9 = true := by decide +kernel
theorem kq2_3 : fewC ([[0, 2], [1, 1], [2, 0], [2, 1]] ++ unitsG 2) 2 9 = true := by decide +kernel
theorem kq2_4 : fewC ([[0, 2], [1, 1], [2, 0], [2, 2]] ++ unitsG 2) 2 9 = true := by decide +kernel
theorem kq2_5 : fewC ([[0, 2], [1, 1], [2, 1], [2, 2]] ++ unitsG 2) 2 9 = true := by decide +kernel
theorem kq2_6 : fewC ([[0, 2], [1, 2], [2, 0], [2, 1]] ++ unitsG 2) 2 9 = true := by decide +kernel
theorem kq2_7 : fewC ([[0, 2], [1, 2], [2, 0], [2, 2]] ++ unitsG 2) 2 9 = true := by decide +kernel
theorem kq2_8 : fewC ([[0, 2], [1, 2], [2, 1], [2, 2]] ++ unitsG 2) 2 9 = true := by decide +kernel
theorem kq2_9 : fewC ([[0, 2], [2, 0], [2, 1], [2, 2]] ++ unitsG 2) 2 9 = true := by decide +kernel
theorem kq2_10 : fewC ([[1, 1], [1, 2], [2, 0], [2, 1]] ++ unitsG 2) 2 9 = true := by decide +kernel
theorem kq2_11 : fewC ([[1, 1], [1, 2], [2, 0], [2, 2]] ++ unitsG 2) 2 9 = true := by decide +kernel
theorem kq2_12 : fewC ([[1, 1], [1, 2], [2, 1], [2, 2]] ++ unitsG 2) 2 9 = true := by decide +kernel
theorem kq2_13 : fewC ([[1, 1], [2, 0], [2, 1], [2, 2]] ++ unitsG 2) 2 9 = true := by decide +kernel
theorem kq2_14 : fewC ([[1, 2], [2, 0], [2, 1], [2, 2]] ++ unitsG 2) 2 9 = true := by decide +kernel
def fours : List (List Row) := [[[0, 2], [1, 1], [1, 2], [2, 0]], [[0, 2], [1, 1], [1, 2], [2, 1]], [[0, 2], [1, 1], [1, 2], [2, 2]], [[0, 2], [1, 1], [2, 0], [2, 1]], [[0, 2], [1, 1], [2, 0], [2, 2]], [[0, 2], [1, 1], [2, 1], [2, 2]], [[0, 2], [1, 2], [2, 0], [2, 1]], [[0, 2], [1, 2], [2, 0], [2, 2]], [[0, 2], [1, 2], [2, 1], [2, 2]], [[0, 2], [2, 0], [2, 1], [2, 2]], [[1, 1], [1, 2], [2, 0], [2, 1]], [[1, 1], [1, 2], [2, 0], [2, 2]], [[1, 1], [1, 2], [2, 1], [2, 2]], [[1, 1], [2, 0], [2, 1], [2, 2]], [[1, 2], [2, 0], [2, 1], [2, 2]]]
theorem in_four : ∀ s ∈ subsK ks2 4, s ∈ subsK ks2 3 ∨ s ∈ fours := by decide +kernel
theorem kq2_ok : chkF 2 ks2 4 9 = true := by
  unfold chkF
  rw [List.all_eq_true]
  intro s hs
  rcases in_four s hs with h | h
  · have k := ks2_ok
    unfold chkF at k
    exact List.all_eq_true.mp k s h
  · unfold fours at h
    simp only [List.mem_cons, List.not_mem_nil, or_false] at h
    rcases h with e | e | e | e | e | e | e | e | e | e | e | e | e | e | e <;> rw [e]
    · exact kq2_0
    · exact kq2_1
    · exact kq2_2
    · exact kq2_3
    · exact kq2_4
    · exact kq2_5
    · exact kq2_6
    · exact kq2_7
    · exact kq2_8
    · exact kq2_9
    · exact kq2_10
    · exact kq2_11
    · exact kq2_12
    · exact kq2_13
    · exact kq2_14
end BL
end HL

namespace HL
namespace R3
/-! three whole numbers: rays of the chambers of some planes -/
structure T3 where
  a : Int
  b : Int
  c : Int
deriving DecidableEq
def dot (n x : T3) : Int := n.a * x.a + n.b * x.b + n.c * x.c
def crs (n m : T3) : T3 := ⟨n.b * m.c - n.c * m.b, n.c * m.a - n.a * m.c, n.a * m.b - n.b * m.a⟩
def z3 : T3 := ⟨0, 0, 0⟩
def lin (p q : Int) (x y : T3) : T3 := ⟨p * x.a + q * y.a, p * x.b + q * y.b, p * x.c + q * y.c⟩
theorem dot_lin (n x y : T3) (p q : Int) : dot n (lin p q x y) = p * dot n x + q * dot n y := by
  unfold dot lin
  grind
theorem dot_crs1 (n x : T3) : dot n (crs n x) = 0 := by
  unfold dot crs
  grind
theorem dot_crs2 (n x : T3) : dot x (crs n x) = 0 := by
  unfold dot crs
  grind
/-- where the ratio of the pairs is least -/
theorem min_ratio {α : Type} {f g : α → Int} : ∀ {l : List α}, (∃ a ∈ l, 0 < g a) → ∃ a ∈ l, 0 < g a ∧ ∀ c ∈ l, 0 < g c → f a * g c ≤ f c * g a
  | [], h => by
    obtain ⟨a, ha, _⟩ := h
    cases ha
  | x :: l, h => by
    by_cases hl : ∃ a ∈ l, 0 < g a
    · obtain ⟨a, ha, pa, ma⟩ := min_ratio (f := f) hl
      by_cases hx : 0 < g x
      · by_cases c : f a * g x ≤ f x * g a
        · refine ⟨a, List.mem_cons_of_mem _ ha, pa, fun d hd pd => ?_⟩
          rcases List.mem_cons.mp hd with e | e
          · rw [e]; exact c
          · exact ma d e pd
        · refine ⟨x, List.mem_cons_self, hx, fun d hd pd => ?_⟩
          rcases List.mem_cons.mp hd with e | e
          · rw [e]; exact Int.le_refl _
          · have h1 := ma d e pd
            have h2 : f x * g a ≤ f a * g x := by omega
            have h3 : f x * g a * g d ≤ f a * g x * g d := Int.mul_le_mul_of_nonneg_right h2 (Int.le_of_lt pd)
            have h4 : f a * g d * g x ≤ f d * g a * g x := Int.mul_le_mul_of_nonneg_right h1 (Int.le_of_lt hx)
            have h5 : g a * (f x * g d) ≤ g a * (f d * g x) := by grind
            exact Int.le_of_mul_le_mul_left h5 pa
      · refine ⟨a, List.mem_cons_of_mem _ ha, pa, fun d hd pd => ?_⟩
        rcases List.mem_cons.mp hd with e | e
        · rw [e] at pd; exact absurd pd hx
        · exact ma d e pd
    · obtain ⟨a, ha, pa⟩ := h
      rcases List.mem_cons.mp ha with e | e
      · subst e
        refine ⟨a, List.mem_cons_self, pa, fun d hd pd => ?_⟩
        rcases List.mem_cons.mp hd with e | e
        · rw [e]; exact Int.le_refl _
        · exact absurd ⟨d, e, pd⟩ hl
      · exact absurd ⟨a, e, pa⟩ hl
/-- y lies in the face of x -/
def face (F : List T3) (x y : T3) : Prop := ∀ n ∈ F, (dot n x = 0 → dot n y = 0) ∧ 0 ≤ dot n x * dot n y
theorem face_refl (F : List T3) (x : T3) : face F x x := fun n _ => ⟨fun h => h, by
  by_cases h : 0 ≤ dot n x
  · exact Int.mul_nonneg h h
  · exact Int.mul_nonneg_of_nonpos_of_nonpos (by omega) (by omega)⟩
theorem sgn3 {p q r : Int} (h1 : 0 ≤ p * q) (h2 : 0 ≤ q * r) (h : q ≠ 0) : 0 ≤ p * r := by
  by_cases c : 0 < q
  · have p0 : 0 ≤ p := Classical.byContradiction fun z => by
      have := Int.mul_neg_of_neg_of_pos (show p < 0 by omega) c
      omega
    have r0 : 0 ≤ r := Classical.byContradiction fun z => by
      have := Int.mul_neg_of_pos_of_neg c (show r < 0 by omega)
      omega
    exact Int.mul_nonneg p0 r0
  · have q0 : q < 0 := by omega
    have p0 : p ≤ 0 := Classical.byContradiction fun z => by
      have := Int.mul_neg_of_pos_of_neg (show 0 < p by omega) q0
      omega
    have r0 : r ≤ 0 := Classical.byContradiction fun z => by
      have := Int.mul_neg_of_neg_of_pos q0 (show 0 < r by omega)
      omega
    exact Int.mul_nonneg_of_nonpos_of_nonpos p0 r0
theorem face_trans {F : List T3} {x y z : T3} (h : face F x y) (k : face F y z) : face F x z := fun n hn => by
  obtain ⟨h1, h2⟩ := h n hn
  obtain ⟨k1, k2⟩ := k n hn
  refine ⟨fun e => k1 (h1 e), ?_⟩
  by_cases c : dot n y = 0
  · rw [k1 c, Int.mul_zero]
    exact Int.le_refl _
  · exact sgn3 h2 k2 c
theorem sq_pos {p : Int} (h : p ≠ 0) : 0 < p * p := by
  rcases Int.lt_or_gt_of_ne h with c | c
  · exact Int.mul_pos_of_neg_of_neg c c
  · exact Int.mul_pos c c
def U3 (F : List T3) : Prop := ⟨1, 0, 0⟩ ∈ F ∧ ⟨0, 1, 0⟩ ∈ F ∧ ⟨0, 0, 1⟩ ∈ F
theorem nz_of {F : List T3} (u : U3 F) {x : T3} (h : x ≠ z3) : ∃ n ∈ F, dot n x ≠ 0 := Classical.byContradiction fun c => h (by
  have c' : ∀ n ∈ F, dot n x = 0 := fun n hn => Classical.byContradiction fun z => c ⟨n, hn, z⟩
  have h1 := c' _ u.1
  have h2 := c' _ u.2.1
  have h3 := c' _ u.2.2
  unfold dot at h1 h2 h3
  cases x
  simp at h1 h2 h3
  subst h1 h2 h3
  rfl)
theorem zero_of {F : List T3} (u : U3 F) {x : T3} (h : ∀ n ∈ F, dot n x = 0) : x = z3 := Classical.byContradiction fun c => by
  obtain ⟨n, hn, e⟩ := nz_of u c
  exact e (h n hn)
/-- a step towards a ray: one more form is nought -/
theorem step {F : List T3} (u : U3 F) {x d : T3} (hx : x ≠ z3) (hd : ∀ n ∈ F, dot n x = 0 → dot n d = 0) (np : ∀ p q : Int, q ≠ 0 → lin p q x d ≠ z3) : ∃ y, y ≠ z3 ∧ face F x y ∧ ∃ n ∈ F, dot n x ≠ 0 ∧ dot n y = 0 := by
  obtain ⟨n0, h0, z0⟩ := nz_of u hx
  obtain ⟨n, hn, pn, mn⟩ := min_ratio (f := fun n => dot n d * dot n x) (g := fun n => dot n x * dot n x) (l := F) ⟨n0, h0, sq_pos z0⟩
  have zn : dot n x ≠ 0 := fun e => by rw [e] at pn; exact absurd pn (by decide)
  -- y = (x.n)² d - (d.n)(x.n) x
  refine ⟨lin (-(dot n d * dot n x)) (dot n x * dot n x) x d, np _ _ (fun e => by rw [e] at pn; exact absurd pn (by decide)), fun m hm => ⟨fun e => ?_, ?_⟩, n, hn, zn, ?_⟩
  · rw [dot_lin, e, hd m hm e]
    omega
  · rw [dot_lin]
    by_cases e : dot m x = 0
    · rw [e, Int.zero_mul]
      exact Int.le_refl _
    · have h := mn m hm (sq_pos e)
      have h : dot n d * dot n x * (dot m x * dot m x) ≤ dot m d * dot m x * (dot n x * dot n x) := h
      have e2 : dot m x * (-(dot n d * dot n x) * dot m x + dot n x * dot n x * dot m d) = dot m d * dot m x * (dot n x * dot n x) - dot n d * dot n x * (dot m x * dot m x) := by grind
      rw [e2]
      omega
  · rw [dot_lin]
    grind
theorem cnt_lt {l : List T3} {p q : T3 → Bool} (sub : ∀ n ∈ l, q n = true → p n = true) (ex : ∃ n ∈ l, p n = true ∧ ¬ q n = true) : (l.filter q).length < (l.filter p).length := by
  have e : l.filter q = (l.filter p).filter q := by
    rw [List.filter_filter]
    refine List.filter_congr fun n hn => ?_
    cases h : q n with
    | false => rfl
    | true => rw [sub n hn h]; rfl
  rw [e, List.length_filter_lt_length_iff_exists]
  obtain ⟨n, hn, h1, h2⟩ := ex
  exact ⟨n, List.mem_filter.mpr ⟨hn, h1⟩, h2⟩
theorem dot_par (n e y w : T3) : dot n y * dot e w - dot n w * dot e y = dot (crs n e) (crs y w) := by
  unfold dot crs
  grind
theorem dot_z (n : T3) : dot n z3 = 0 := by
  unfold dot z3
  grind
theorem z_dot (x : T3) : dot z3 x = 0 := by
  unfold dot z3
  grind
theorem par_eq {y w : T3} (h : crs y w = z3) (n e : T3) : dot n y * dot e w = dot n w * dot e y := by
  have := dot_par n e y w
  rw [h, dot_z] at this
  omega
theorem par_eq2 {n e : T3} (h : crs n e = z3) (y w : T3) : dot n y * dot e w = dot n w * dot e y := by
  have := dot_par n e y w
  rw [h, z_dot] at this
  omega
theorem self_pos {x : T3} (h : x ≠ z3) : 0 < dot x x := by
  have nn : ∀ p : Int, 0 ≤ p * p := fun p => by
    by_cases c : p = 0
    · rw [c]; decide
    · exact Int.le_of_lt (sq_pos c)
  have h1 := nn x.a
  have h2 := nn x.b
  have h3 := nn x.c
  unfold dot
  refine Classical.byContradiction fun c => h ?_
  have a0 : x.a = 0 := Classical.byContradiction fun z => by have := sq_pos z; omega
  have b0 : x.b = 0 := Classical.byContradiction fun z => by have := sq_pos z; omega
  have c0 : x.c = 0 := Classical.byContradiction fun z => by have := sq_pos z; omega
  cases x
  simp at a0 b0 c0
  subst a0 b0 c0
  rfl
/-- x and what is square to it: no sum of them is nought -/
theorem no_sum {e x : T3} (h : crs e x ≠ z3) : ∀ p q : Int, q ≠ 0 → lin p q x (crs e x) ≠ z3 := fun p q hq z => by
  have e1 : dot (crs e x) (lin p q x (crs e x)) = q * dot (crs e x) (crs e x) := by
    rw [dot_lin]
    have : dot (crs e x) x = 0 := by unfold dot crs; grind
    rw [this]
    omega
  rw [z, dot_z] at e1
  have := self_pos h
  rcases Int.mul_eq_zero.mp e1.symm with c | c
  · exact hq c
  · omega
theorem lagr (a x : T3) : dot (crs a x) (crs a x) = dot a a * dot x x - dot a x * dot a x := by
  unfold dot crs
  grind
theorem crs_unit {x : T3} (h : x ≠ z3) : crs ⟨1, 0, 0⟩ x ≠ z3 ∨ crs ⟨0, 1, 0⟩ x ≠ z3 := by
  by_cases c : crs ⟨1, 0, 0⟩ x = z3
  · refine .inr fun d => h ?_
    unfold crs z3 at c d
    simp at c d
    cases x
    simp at c d
    obtain ⟨c1, c2⟩ := c
    obtain ⟨d1, d2⟩ := d
    subst c1 c2 d2
    rfl
  · exact .inl c
/-- each face has a ray: two forms that are not alike are nought there -/
theorem ray_of {F : List T3} (u : U3 F) : ∀ (k : Nat) (x : T3), x ≠ z3 → (F.filter fun n => !decide (dot n x = 0)).length ≤ k → ∃ r, r ≠ z3 ∧ face F x r ∧ ∃ a ∈ F, ∃ b ∈ F, crs a b ≠ z3 ∧ dot a r = 0 ∧ dot b r = 0 := by
  intro k
  induction k with
  | zero =>
    intro x hx hk
    exfalso
    obtain ⟨n, hn, z⟩ := nz_of u hx
    have : n ∈ F.filter fun n => !decide (dot n x = 0) := List.mem_filter.mpr ⟨hn, by rw [decide_eq_false z]; rfl⟩
    have := List.length_pos_of_mem this
    omega
  | succ k ih =>
    intro x hx hk
    by_cases two : ∃ a ∈ F, ∃ b ∈ F, crs a b ≠ z3 ∧ dot a x = 0 ∧ dot b x = 0
    · exact ⟨x, hx, face_refl F x, two⟩
    · have one : ∀ a ∈ F, ∀ b ∈ F, dot a x = 0 → dot b x = 0 → crs a b = z3 := fun a ha b hb h1 h2 => Classical.byContradiction fun z => two ⟨a, ha, b, hb, z, h1, h2⟩
      obtain ⟨d, hd, np⟩ : ∃ d, (∀ n ∈ F, dot n x = 0 → dot n d = 0) ∧ ∀ p q : Int, q ≠ 0 → lin p q x d ≠ z3 := by
        by_cases ex : ∃ a ∈ F, a ≠ z3 ∧ dot a x = 0
        · obtain ⟨a, ha, za, ea⟩ := ex
          refine ⟨crs a x, fun n hn e => ?_, no_sum fun z => ?_⟩
          · have h := one a ha n hn ea e
            have e2 : dot n (crs a x) = -dot x (crs a n) := by unfold dot crs; grind
            rw [e2, h, dot_z]
            rfl
          · have h := lagr a x
            rw [z, dot_z, ea] at h
            have := Int.mul_pos (self_pos za) (self_pos hx)
            omega
        · have all : ∀ n ∈ F, dot n x = 0 → n = z3 := fun n hn e => Classical.byContradiction fun z => ex ⟨n, hn, z, e⟩
          rcases crs_unit hx with h | h
          · exact ⟨_, fun n hn e => by rw [all n hn e, z_dot], no_sum h⟩
          · exact ⟨_, fun n hn e => by rw [all n hn e, z_dot], no_sum h⟩
      obtain ⟨y, hy, fy, n, hn, zn, en⟩ := step u hx hd np
      have lt := cnt_lt (l := F) (p := fun n => !decide (dot n x = 0)) (q := fun n => !decide (dot n y = 0)) (fun m hm h => by
        by_cases c : dot m x = 0
        · rw [decide_eq_true ((fy m hm).1 c)] at h
          cases h
        · rw [decide_eq_false c]; rfl) ⟨n, hn, by rw [decide_eq_false zn]; rfl, by rw [decide_eq_true en]; decide⟩
      obtain ⟨r, hr, fr, ab⟩ := ih y hy (by omega)
      exact ⟨r, hr, face_trans fy fr, ab⟩
def n27 : List T3 := [0, 1, 2].flatMap fun a => [0, 1, 2].flatMap fun b => [0, 1, 2].map fun c => ⟨a, b, c⟩
def gcd3 (x : T3) : Nat := Nat.gcd x.a.natAbs (Nat.gcd x.b.natAbs x.c.natAbs)
def prm (x : T3) : T3 := ⟨x.a / (gcd3 x : Nat), x.b / (gcd3 x : Nat), x.c / (gcd3 x : Nat)⟩
def le4 (x : T3) : Prop := (-4 ≤ x.a ∧ x.a ≤ 4) ∧ (-4 ≤ x.b ∧ x.b ≤ 4) ∧ (-4 ≤ x.c ∧ x.c ≤ 4)
def scl (g : Int) (x : T3) : T3 := ⟨g * x.a, g * x.b, g * x.c⟩
theorem prm_ok : ∀ a ∈ n27, ∀ b ∈ n27, crs a b = z3 ∨ ((gcd3 (crs a b) : Int) ≠ 0 ∧ scl (gcd3 (crs a b) : Nat) (prm (crs a b)) = crs a b ∧ ((-4 ≤ (prm (crs a b)).a ∧ (prm (crs a b)).a ≤ 4) ∧ (-4 ≤ (prm (crs a b)).b ∧ (prm (crs a b)).b ≤ 4) ∧ (-4 ≤ (prm (crs a b)).c ∧ (prm (crs a b)).c ≤ 4))) := by decide +kernel
/-- each face has a small ray -/
theorem small_ray {F : List T3} (u : U3 F) (N : ∀ n ∈ F, n ∈ n27) {x : T3} (hx : x ≠ z3) : ∃ r, r ≠ z3 ∧ face F x r ∧ le4 r := by
  obtain ⟨r0, h0, f0, a, ha, b, hb, zc, ea, eb⟩ := ray_of u _ x hx (Nat.le_refl _)
  obtain ⟨g0, e, l3⟩ := (prm_ok a (N a ha) b (N b hb)).resolve_left zc
  generalize (gcd3 (crs a b) : Int) = g at g0 e
  generalize prm (crs a b) = r' at e l3
  have hr' : r' ≠ z3 := fun z => zc (by
    rw [← e, z]
    unfold scl z3
    simp)
  have cr : crs (crs a b) r0 = z3 := by
    unfold dot at ea eb
    have h1 : (crs (crs a b) r0).a = 0 := by unfold crs; grind
    have h2 : (crs (crs a b) r0).b = 0 := by unfold crs; grind
    have h3 : (crs (crs a b) r0).c = 0 := by unfold crs; grind
    generalize crs (crs a b) r0 = v at h1 h2 h3
    cases v
    simp at h1 h2 h3
    subst h1 h2 h3
    rfl
  -- alike
  have al : ∀ n m : T3, dot n r' * dot m r0 = dot n r0 * dot m r' := fun n m => by
    have h := par_eq cr n m
    have d1 : ∀ k : T3, dot k (crs a b) = g * dot k r' := fun k => by
      rw [← e]
      unfold dot scl
      grind
    rw [d1 n, d1 m] at h
    have h2 : g * (dot n r' * dot m r0) = g * (dot n r0 * dot m r') := by grind
    exact Int.eq_of_mul_eq_mul_left g0 h2
  obtain ⟨m, hm, zm⟩ := nz_of u hr'
  have zm0 : dot m r0 ≠ 0 := fun z => by
    refine h0 (zero_of u fun n hn => ?_)
    have h := al n m
    rw [z, Int.mul_zero] at h
    exact (Int.mul_eq_zero.mp h.symm).resolve_right zm
  -- the sign
  have key : ∀ s : Int, (s = 1 ∨ s = -1) → 0 < s * (dot m r' * dot m r0) → face F x (scl s r') ∧ scl s r' ≠ z3 ∧ le4 (scl s r') := fun s hs pos => by
    have ds : ∀ n, dot n (scl s r') = s * dot n r' := fun n => by
      unfold dot scl
      grind
    refine ⟨face_trans f0 fun n hn => ⟨fun z => ?_, ?_⟩, fun z => ?_, ?_⟩
    · have h := al n m
      rw [z, Int.zero_mul] at h
      rw [ds, (Int.mul_eq_zero.mp h).resolve_right zm0, Int.mul_zero]
    · rw [ds]
      have h := al n m
      have e3 : dot n r0 * (s * dot n r') * (dot m r' * dot m r0) * s = (dot n r0 * dot m r') * (dot n r' * dot m r0) * (s * s) := by grind
      have ss : s * s = 1 := by rcases hs with c | c <;> rw [c] <;> rfl
      rw [h, ss, Int.mul_one] at e3
      have sq : 0 ≤ dot n r0 * dot m r' * (dot n r0 * dot m r') := by
        by_cases c : dot n r0 * dot m r' = 0
        · rw [c]; decide
        · exact Int.le_of_lt (sq_pos c)
      have e4 : dot n r0 * (s * dot n r') * (s * (dot m r' * dot m r0)) = dot n r0 * (s * dot n r') * (dot m r' * dot m r0) * s := by grind
      refine Classical.byContradiction fun c => ?_
      have := Int.mul_neg_of_neg_of_pos (show dot n r0 * (s * dot n r') < 0 by omega) pos
      omega
    · have := ds m
      rw [z, dot_z] at this
      rcases hs with c | c <;> rw [c] at this <;> omega
    · obtain ⟨l1, l2, l4⟩ := l3
      unfold le4 scl
      rcases hs with c | c <;> rw [c] <;> simp <;> omega
  have np : dot m r' * dot m r0 ≠ 0 := fun z => by
    rcases Int.mul_eq_zero.mp z with c | c
    · exact zm c
    · exact zm0 c
  by_cases c : 0 < dot m r' * dot m r0
  · obtain ⟨k1, k2, k3⟩ := key 1 (.inl rfl) (by omega)
    exact ⟨_, k2, k1, k3⟩
  · obtain ⟨k1, k2, k3⟩ := key (-1) (.inr rfl) (by omega)
    exact ⟨_, k2, k1, k3⟩
/-- y is a part of x -/
def part (F : List T3) (x y : T3) : Prop := ∀ n ∈ F, 0 ≤ dot n x * dot n y ∧ dot n y * dot n y ≤ dot n x * dot n y
theorem sq_nn (p : Int) : 0 ≤ p * p := by
  by_cases c : p = 0
  · rw [c]; decide
  · exact Int.le_of_lt (sq_pos c)
/-- one ray is taken out -/
theorem go {F : List T3} (u : U3 F) (N : ∀ n ∈ F, n ∈ n27) {x X : T3} {q : Int} (hq : 0 < q) (hX : X ≠ z3) (fX : face F x X) (bX : ∀ n ∈ F, dot n X * dot n X ≤ q * dot n x * dot n X) :
    (∃ r, r ≠ z3 ∧ le4 r ∧ part F x r) ∨ ∃ (r : T3) (m p : Int) (n0 : T3), r ≠ z3 ∧ le4 r ∧ face F X r ∧ 0 < m ∧ 0 < p ∧ p < m * q ∧ n0 ∈ F ∧ dot n0 r ≠ 0 ∧ dot n0 (lin m (-p) X r) = 0 ∧ face F X (lin m (-p) X r) ∧
      ∀ n ∈ F, dot n (lin m (-p) X r) * dot n (lin m (-p) X r) ≤ m * q * dot n x * dot n (lin m (-p) X r) := by
  obtain ⟨r, hr, fr, l4⟩ := small_ray u N hX
  obtain ⟨k0, hk0, zk0⟩ := nz_of u hr
  obtain ⟨n0, h0, p0, mn⟩ := min_ratio (f := fun n => dot n X * dot n r) (g := fun n => dot n r * dot n r) (l := F) ⟨k0, hk0, sq_pos zk0⟩
  have p0 : 0 < dot n0 r * dot n0 r := p0
  have z0 : dot n0 r ≠ 0 := fun e => by rw [e] at p0; exact absurd p0 (by decide)
  have zX : dot n0 X ≠ 0 := fun e => z0 ((fr n0 h0).1 e)
  have pp : 0 < dot n0 X * dot n0 r := by
    have h1 := (fr n0 h0).2
    have h2 : dot n0 X * dot n0 r ≠ 0 := fun e => by
      rcases Int.mul_eq_zero.mp e with c | c
      · exact zX c
      · exact z0 c
    omega
  -- p ρ² ≤ m A ρ
  have mn' : ∀ n ∈ F, dot n0 X * dot n0 r * (dot n r * dot n r) ≤ dot n X * dot n r * (dot n0 r * dot n0 r) := fun n hn => by
    by_cases c : dot n r = 0
    · rw [c]
      simp
    · exact mn n hn (sq_pos c)
  generalize ep : dot n0 X * dot n0 r = p at pp mn'
  generalize em : dot n0 r * dot n0 r = m at p0 mn'
  -- q a - A goes as r does
  have qa : ∀ n ∈ F, 0 ≤ (q * dot n x - dot n X) * dot n r := fun n hn => by
    by_cases c : dot n X = 0
    · rw [(fr n hn).1 c, Int.mul_zero]
      exact Int.le_refl _
    · refine sgn3 (q := dot n X) ?_ (fr n hn).2 c
      have := bX n hn
      have e : (q * dot n x - dot n X) * dot n X = q * dot n x * dot n X - dot n X * dot n X := by grind
      omega
  by_cases c : m * q ≤ p
  · refine .inl ⟨r, hr, l4, fun n hn => ?_⟩
    have h1 := mn' n hn
    have h2 : m * q * (dot n r * dot n r) ≤ p * (dot n r * dot n r) := Int.mul_le_mul_of_nonneg_right c (sq_nn _)
    have h3 : m * (q * (dot n r * dot n r)) ≤ m * (dot n X * dot n r) := by grind
    have h4 := Int.le_of_mul_le_mul_left h3 p0
    have h5 := qa n hn
    have h6 : q * (dot n r * dot n r) ≤ q * (dot n x * dot n r) := by
      have e : (q * dot n x - dot n X) * dot n r = q * (dot n x * dot n r) - dot n X * dot n r := by grind
      omega
    have h7 := Int.le_of_mul_le_mul_left h6 hq
    exact ⟨Int.le_trans (sq_nn _) h7, h7⟩
  · have dX : ∀ n, dot n (lin m (-p) X r) = m * dot n X - p * dot n r := fun n => by
      rw [dot_lin]
      grind
    have s1 : ∀ n ∈ F, 0 ≤ dot n (lin m (-p) X r) * dot n r := fun n hn => by
      have h1 := mn' n hn
      rw [dX]
      have e : (m * dot n X - p * dot n r) * dot n r = dot n X * dot n r * m - p * (dot n r * dot n r) := by grind
      omega
    have s2 : ∀ n ∈ F, (dot n X = 0 → dot n (lin m (-p) X r) = 0) ∧ 0 ≤ dot n X * dot n (lin m (-p) X r) := fun n hn => by
      refine ⟨fun e => by rw [dX, e, (fr n hn).1 e]; simp, ?_⟩
      by_cases z : dot n r = 0
      · rw [dX, z, Int.mul_zero, Int.sub_zero]
        have e : dot n X * (m * dot n X) = m * (dot n X * dot n X) := by grind
        rw [e]
        exact Int.mul_nonneg (Int.le_of_lt p0) (sq_nn _)
      · refine sgn3 (q := dot n r) (fr n hn).2 ?_ z
        have := s1 n hn
        rw [Int.mul_comm] at this
        exact this
    refine .inr ⟨r, m, p, n0, hr, l4, fr, p0, pp, by omega, h0, z0, ?_, s2, fun n hn => ?_⟩
    · rw [dX, ← ep, ← em]
      grind
    · -- A'² ≤ m A A' ≤ m q a A'
      have h1 : dot n (lin m (-p) X r) * dot n (lin m (-p) X r) ≤ m * (dot n X * dot n (lin m (-p) X r)) := by
        have h := s1 n hn
        have h2 : 0 ≤ p * (dot n (lin m (-p) X r) * dot n r) := Int.mul_nonneg (Int.le_of_lt pp) h
        have e : m * (dot n X * dot n (lin m (-p) X r)) - dot n (lin m (-p) X r) * dot n (lin m (-p) X r) = p * (dot n (lin m (-p) X r) * dot n r) := by
          rw [dX]
          grind
        omega
      have h2 : 0 ≤ (q * dot n x - dot n X) * dot n (lin m (-p) X r) := by
        by_cases z : dot n X = 0
        · rw [(s2 n hn).1 z, Int.mul_zero]
          exact Int.le_refl _
        · refine sgn3 (q := dot n X) ?_ (s2 n hn).2 z
          have := bX n hn
          have e : (q * dot n x - dot n X) * dot n X = q * dot n x * dot n X - dot n X * dot n X := by grind
          omega
      have h3 : 0 ≤ m * ((q * dot n x - dot n X) * dot n (lin m (-p) X r)) := Int.mul_nonneg (Int.le_of_lt p0) h2
      have e : m * ((q * dot n x - dot n X) * dot n (lin m (-p) X r)) = m * q * dot n x * dot n (lin m (-p) X r) - m * (dot n X * dot n (lin m (-p) X r)) := by grind
      omega
/-- three forms that are nought tell that all is nought -/
theorem vanish {F : List T3} (u : U3 F) {n0 n1 n2 r1 r2 y w : T3} (a1 : dot n0 r1 ≠ 0) (a2 : dot n0 r2 = 0) (a3 : dot n1 r2 ≠ 0) (y0 : dot n0 y = 0) (y1 : dot n1 y = 0) (w0 : dot n0 w = 0) (w1 : dot n1 w = 0) (y2 : dot n2 y = 0) (w2 : dot n2 w ≠ 0) : y = z3 := by
  have zc : crs n0 n1 ≠ z3 := fun z => by
    have h := par_eq2 z r1 r2
    rw [a2, Int.zero_mul] at h
    rcases Int.mul_eq_zero.mp h with c | c
    · exact a1 c
    · exact a3 c
  have nul : ∀ v : T3, dot n0 v = 0 → dot n1 v = 0 → crs (crs n0 n1) v = z3 := fun v h h' => by
    unfold dot at h h'
    have h1 : (crs (crs n0 n1) v).a = 0 := by unfold crs; grind
    have h2 : (crs (crs n0 n1) v).b = 0 := by unfold crs; grind
    have h3 : (crs (crs n0 n1) v).c = 0 := by unfold crs; grind
    generalize crs (crs n0 n1) v = k at h1 h2 h3
    cases k
    simp at h1 h2 h3
    subst h1 h2 h3
    rfl
  obtain ⟨e, he, ze⟩ := nz_of u zc
  have hw := par_eq (nul w w0 w1) n2 e
  have z2 : dot n2 (crs n0 n1) ≠ 0 := fun z => by
    rw [z, Int.zero_mul] at hw
    rcases Int.mul_eq_zero.mp hw.symm with c | c
    · exact w2 c
    · exact ze c
  refine zero_of u fun n hn => ?_
  have hy := par_eq (nul y y0 y1) n2 n
  rw [y2, Int.zero_mul] at hy
  exact (Int.mul_eq_zero.mp hy).resolve_left z2
def Sum3 (F : List T3) (x : T3) : Prop := ∃ (q p1 p2 p3 : Int) (r1 r2 r3 : T3), 0 < q ∧ (0 ≤ p1 ∧ p1 < q) ∧ (0 ≤ p2 ∧ p2 < q) ∧ (0 ≤ p3 ∧ p3 < q) ∧ (r1 ≠ z3 ∧ le4 r1 ∧ face F x r1) ∧ (r2 ≠ z3 ∧ le4 r2 ∧ face F x r2) ∧ (r3 ≠ z3 ∧ le4 r3 ∧ face F x r3) ∧
  q * x.a = p1 * r1.a + p2 * r2.a + p3 * r3.a ∧ q * x.b = p1 * r1.b + p2 * r2.b + p3 * r3.b ∧ q * x.c = p1 * r1.c + p2 * r2.c + p3 * r3.c
theorem three {F : List T3} (u : U3 F) (N : ∀ n ∈ F, n ∈ n27) {x : T3} (hx : x ≠ z3) (ind : ∀ y, part F x y → y = z3 ∨ y = x) (big : ¬ le4 x) : Sum3 F x := by
  have noP : ¬ ∃ r, r ≠ z3 ∧ le4 r ∧ part F x r := fun ⟨r, h1, h2, h3⟩ => by
    rcases ind r h3 with e | e
    · exact h1 e
    · exact big (e ▸ h2)
  obtain ⟨r1, m1, p1, n0, hr1, l1, f1, mp1, pp1, lt1, hn0, zn0, d1, g1, b1⟩ := (go u N (q := 1) (by decide) hx (face_refl F x) fun n hn => by rw [Int.one_mul]; exact Int.le_refl _).resolve_left noP
  rw [Int.mul_one] at lt1
  by_cases z1 : lin m1 (-p1) x r1 = z3
  · refine ⟨m1, p1, 0, 0, r1, r1, r1, mp1, ⟨by omega, lt1⟩, ⟨Int.le_refl _, mp1⟩, ⟨Int.le_refl _, mp1⟩, ⟨hr1, l1, f1⟩, ⟨hr1, l1, f1⟩, ⟨hr1, l1, f1⟩, ?_, ?_, ?_⟩
    · have := congrArg T3.a z1; unfold lin z3 at this; simp at this; grind
    · have := congrArg T3.b z1; unfold lin z3 at this; simp at this; grind
    · have := congrArg T3.c z1; unfold lin z3 at this; simp at this; grind
  obtain ⟨r2, m2, p2, n1, hr2, l2, f2, mp2, pp2, lt2, hn1, zn1, d2, g2, b2⟩ := (go u N (q := m1 * 1) (by rw [Int.mul_one]; exact mp1) z1 g1 b1).resolve_left noP
  rw [Int.mul_one] at lt2
  have f2x := face_trans g1 f2
  have q2 : 0 < m2 * m1 := Int.mul_pos mp2 mp1
  have lt12 : m2 * p1 < m2 * m1 := Int.mul_lt_mul_of_pos_left lt1 mp2
  have nn12 : 0 ≤ m2 * p1 := Int.le_of_lt (Int.mul_pos mp2 pp1)
  by_cases z2 : lin m2 (-p2) (lin m1 (-p1) x r1) r2 = z3
  · refine ⟨m2 * m1, m2 * p1, p2, 0, r1, r2, r1, q2, ⟨nn12, lt12⟩, ⟨by omega, lt2⟩, ⟨Int.le_refl _, q2⟩, ⟨hr1, l1, f1⟩, ⟨hr2, l2, f2x⟩, ⟨hr1, l1, f1⟩, ?_, ?_, ?_⟩
    · have := congrArg T3.a z2; unfold lin z3 at this; simp at this; grind
    · have := congrArg T3.b z2; unfold lin z3 at this; simp at this; grind
    · have := congrArg T3.c z2; unfold lin z3 at this; simp at this; grind
  obtain ⟨r3, m3, p3, n2, hr3, l3, f3, mp3, pp3, lt3, hn2, zn2, d3, g3, b3⟩ := (go u N (q := m2 * (m1 * 1)) (by rw [Int.mul_one]; exact q2) z2 (face_trans g1 g2) b2).resolve_left noP
  rw [Int.mul_one] at lt3
  have f3x := face_trans (face_trans g1 g2) f3
  have e0 : dot n0 r2 = 0 := (f2 n0 hn0).1 d1
  have y0 : dot n0 (lin m2 (-p2) (lin m1 (-p1) x r1) r2) = 0 := (g2 n0 hn0).1 d1
  have z3' := vanish u (r1 := r1) zn0 e0 zn1 ((g3 n0 hn0).1 y0) ((g3 n1 hn1).1 d2) ((f3 n0 hn0).1 y0) ((f3 n1 hn1).1 d2) d3 zn2
  have q3 : 0 < m3 * (m2 * m1) := Int.mul_pos mp3 q2
  refine ⟨m3 * (m2 * m1), m3 * (m2 * p1), m3 * p2, p3, r1, r2, r3, q3, ⟨Int.mul_nonneg (Int.le_of_lt mp3) nn12, Int.mul_lt_mul_of_pos_left lt12 mp3⟩, ⟨Int.le_of_lt (Int.mul_pos mp3 pp2), Int.mul_lt_mul_of_pos_left lt2 mp3⟩, ⟨by omega, lt3⟩, ⟨hr1, l1, f1⟩, ⟨hr2, l2, f2x⟩, ⟨hr3, l3, f3x⟩, ?_, ?_, ?_⟩
  · have := congrArg T3.a z3'; unfold lin z3 at this; simp at this; grind
  · have := congrArg T3.b z3'; unfold lin z3 at this; simp at this; grind
  · have := congrArg T3.c z3'; unfold lin z3 at this; simp at this; grind
theorem ten {q p1 p2 p3 r1 r2 r3 v : Int} (hq : 0 < q) (h1 : 0 ≤ p1 ∧ p1 < q) (h2 : 0 ≤ p2 ∧ p2 < q) (h3 : 0 ≤ p3 ∧ p3 < q) (hs : 2 * p1 < q ∨ 2 * p2 < q ∨ 2 * p3 < q) (l1 : -4 ≤ r1 ∧ r1 ≤ 4) (l2 : -4 ≤ r2 ∧ r2 ≤ 4) (l3 : -4 ≤ r3 ∧ r3 ≤ 4) (e : q * v = p1 * r1 + p2 * r2 + p3 * r3) : -9 ≤ v ∧ v ≤ 9 := by
  have up : ∀ {p r : Int}, 0 ≤ p → r ≤ 4 → p * r ≤ p * 4 := fun h h' => Int.mul_le_mul_of_nonneg_left h' h
  have dn : ∀ {p r : Int}, 0 ≤ p → -4 ≤ r → p * (-4) ≤ p * r := fun h h' => Int.mul_le_mul_of_nonneg_left h' h
  have a1 := up h1.1 l1.2
  have a2 := up h2.1 l2.2
  have a3 := up h3.1 l3.2
  have b1 := dn h1.1 l1.1
  have b2 := dn h2.1 l2.1
  have b3 := dn h3.1 l3.1
  have s : 4 * (p1 + p2 + p3) < 10 * q := by omega
  constructor
  · refine Classical.byContradiction fun c => ?_
    have : q * v ≤ q * (-10) := Int.mul_le_mul_of_nonneg_left (by omega) (Int.le_of_lt hq)
    omega
  · refine Classical.byContradiction fun c => ?_
    have : q * 10 ≤ q * v := Int.mul_le_mul_of_nonneg_left (by omega) (Int.le_of_lt hq)
    omega
/-- what has no part is small -/
theorem nine {F : List T3} (u : U3 F) (N : ∀ n ∈ F, n ∈ n27) {x : T3} (ind : ∀ y, part F x y → y = z3 ∨ y = x) : (-9 ≤ x.a ∧ x.a ≤ 9) ∧ (-9 ≤ x.b ∧ x.b ≤ 9) ∧ (-9 ≤ x.c ∧ x.c ≤ 9) := by
  by_cases big : le4 x
  · obtain ⟨h1, h2, h3⟩ := big
    exact ⟨⟨by omega, by omega⟩, ⟨by omega, by omega⟩, ⟨by omega, by omega⟩⟩
  have hx : x ≠ z3 := fun e => big (by rw [e]; unfold le4 z3; decide)
  obtain ⟨q, p1, p2, p3, r1, r2, r3, hq, h1, h2, h3, ⟨z1, l1, f1⟩, ⟨_, l2, f2⟩, ⟨_, l3, f3⟩, ea, eb, ec⟩ := three u N hx ind big
  by_cases c : 2 * p1 < q ∨ 2 * p2 < q ∨ 2 * p3 < q
  · exact ⟨ten hq h1 h2 h3 c l1.1 l2.1 l3.1 ea, ten hq h1 h2 h3 c l1.2.1 l2.2.1 l3.2.1 eb, ten hq h1 h2 h3 c l1.2.2 l2.2.2 l3.2.2 ec⟩
  · -- the rest of the rays is a part
    have c1 : q ≤ 2 * p1 := by omega
    have c2 : q ≤ 2 * p2 := by omega
    have c3 : q ≤ 2 * p3 := by omega
    have dq : ∀ n, q * dot n x = p1 * dot n r1 + p2 * dot n r2 + p3 * dot n r3 := fun n => by
      unfold dot
      grind
    have dy : ∀ n, dot n ⟨r1.a + r2.a + r3.a - x.a, r1.b + r2.b + r3.b - x.b, r1.c + r2.c + r3.c - x.c⟩ = dot n r1 + dot n r2 + dot n r3 - dot n x := fun n => by
      unfold dot
      grind
    generalize ey : (⟨r1.a + r2.a + r3.a - x.a, r1.b + r2.b + r3.b - x.b, r1.c + r2.c + r3.c - x.c⟩ : T3) = y at dy
    have nn : ∀ {p s : Int}, 0 ≤ p → 0 ≤ s → 0 ≤ p * s := fun h h' => Int.mul_nonneg h h'
    have pos : ∀ n ∈ F, 0 ≤ dot n x * dot n y := fun n hn => by
      have e : q * (dot n x * dot n y) = (q - p1) * (dot n x * dot n r1) + (q - p2) * (dot n x * dot n r2) + (q - p3) * (dot n x * dot n r3) := by
        have h := dq n
        have h' := dy n
        grind
      have k1 := nn (show 0 ≤ q - p1 by omega) (f1 n hn).2
      have k2 := nn (show 0 ≤ q - p2 by omega) (f2 n hn).2
      have k3 := nn (show 0 ≤ q - p3 by omega) (f3 n hn).2
      refine Classical.byContradiction fun z => ?_
      have := Int.mul_neg_of_pos_of_neg hq (show dot n x * dot n y < 0 by omega)
      omega
    have pt : part F x y := fun n hn => by
      refine ⟨pos n hn, ?_⟩
      by_cases z : dot n x = 0
      · have : dot n y = 0 := by rw [dy, (f1 n hn).1 z, (f2 n hn).1 z, (f3 n hn).1 z, z]; rfl
        rw [this]
        simp
      · have e : q * ((dot n x - dot n y) * dot n x) = (2 * p1 - q) * (dot n x * dot n r1) + (2 * p2 - q) * (dot n x * dot n r2) + (2 * p3 - q) * (dot n x * dot n r3) := by
          have h := dq n
          have h' := dy n
          grind
        have k1 := nn (show 0 ≤ 2 * p1 - q by omega) (f1 n hn).2
        have k2 := nn (show 0 ≤ 2 * p2 - q by omega) (f2 n hn).2
        have k3 := nn (show 0 ≤ 2 * p3 - q by omega) (f3 n hn).2
        have k : 0 ≤ (dot n x - dot n y) * dot n x := Classical.byContradiction fun w => by
          have := Int.mul_neg_of_pos_of_neg hq (show (dot n x - dot n y) * dot n x < 0 by omega)
          omega
        have := sgn3 k (pos n hn) z
        have e2 : (dot n x - dot n y) * dot n y = dot n x * dot n y - dot n y * dot n y := by grind
        omega
    rcases ind y pt with e | e
    · exfalso
      refine z1 (zero_of u fun n hn => ?_)
      by_cases z : dot n x = 0
      · exact (f1 n hn).1 z
      · have h' := dy n
        rw [e, dot_z] at h'
        have e3 : (q - p1) * (dot n x * dot n r1) + (q - p2) * (dot n x * dot n r2) + (q - p3) * (dot n x * dot n r3) = 0 := by
          have h := dq n
          grind
        have k1 := nn (show 0 ≤ q - p1 by omega) (f1 n hn).2
        have k2 := nn (show 0 ≤ q - p2 by omega) (f2 n hn).2
        have k3 := nn (show 0 ≤ q - p3 by omega) (f3 n hn).2
        have e4 : (q - p1) * (dot n x * dot n r1) = 0 := by omega
        rcases Int.mul_eq_zero.mp e4 with w | w
        · omega
        · exact (Int.mul_eq_zero.mp w).resolve_left z
    · have ha := congrArg T3.a (ey.trans e)
      have hb := congrArg T3.b (ey.trans e)
      have hc := congrArg T3.c (ey.trans e)
      have ha : r1.a + r2.a + r3.a - x.a = x.a := ha
      have hb : r1.b + r2.b + r3.b - x.b = x.b := hb
      have hc : r1.c + r2.c + r3.c - x.c = x.c := hc
      obtain ⟨⟨m1, m2⟩, ⟨m3, m4⟩, m5, m6⟩ := l1
      obtain ⟨⟨o1, o2⟩, ⟨o3, o4⟩, o5, o6⟩ := l2
      obtain ⟨⟨w1, w2⟩, ⟨w3, w4⟩, w5, w6⟩ := l3
      exact ⟨⟨by omega, by omega⟩, ⟨by omega, by omega⟩, ⟨by omega, by omega⟩⟩
end R3
end HL

namespace HL
namespace BL
open R3 (T3 dot z3 part nine n27 U3)
/-! loads of three kinds in three goods that have no parts -/
def ain (ll : List (List Int)) (i j : Nat) : Int := (ll.getD i []).getD j 0
def t3 (ll : List (List Int)) (x : Vec) : T3 := ⟨if 0 < ll.length then x 0 else 0, if 1 < ll.length then x 1 else 0, if 2 < ll.length then x 2 else 0⟩
def nrm (ll : List (List Int)) (j : Nat) : T3 := ⟨ain ll 0 j, ain ll 1 j, ain ll 2 j⟩
def frm (ll : List (List Int)) : List T3 := [⟨1, 0, 0⟩, ⟨0, 1, 0⟩, ⟨0, 0, 1⟩, nrm ll 0, nrm ll 1, nrm ll 2]
theorem Lb3 {ll : List (List Int)} (h : ll.length ≤ 3) (x : Vec) (j : Nat) : Lb ll x j = dot (nrm ll j) (t3 ll x) := by
  match ll, h with
  | [], _ =>
    unfold dot nrm t3 ain Lb
    simp
  | [a], _ =>
    show x 0 * a.getD j 0 + 0 = _
    unfold dot nrm t3 ain
    simp
    grind
  | [a, b], _ =>
    show x 0 * a.getD j 0 + (x 1 * b.getD j 0 + 0) = _
    unfold dot nrm t3 ain
    simp
    grind
  | [a, b, c], _ =>
    show x 0 * a.getD j 0 + (x 1 * b.getD j 0 + (x 2 * c.getD j 0 + 0)) = _
    unfold dot nrm t3 ain
    simp
    grind
  | _ :: _ :: _ :: _ :: _, h => simp at h
theorem frm_in {ll : List (List Int)} (ent : ∀ i j, 0 ≤ ain ll i j ∧ ain ll i j ≤ 2) : ∀ n ∈ frm ll, n ∈ n27 := by
  have key : ∀ j, nrm ll j ∈ n27 := fun j => by
    have c : ∀ z : Int, 0 ≤ z ∧ z ≤ 2 → z = 0 ∨ z = 1 ∨ z = 2 := fun z h => by omega
    unfold nrm
    rcases c _ (ent 0 j) with a | a | a <;> rcases c _ (ent 1 j) with b | b | b <;> rcases c _ (ent 2 j) with d | d | d <;> rw [a, b, d] <;> decide
  intro n hn
  unfold frm at hn
  simp only [List.mem_cons, List.not_mem_nil, or_false] at hn
  rcases hn with e | e | e | e | e | e <;> rw [e]
  · decide
  · decide
  · decide
  · exact key 0
  · exact key 1
  · exact key 2
theorem frm_u (ll : List (List Int)) : U3 (frm ll) := ⟨List.mem_cons_self, List.mem_cons_of_mem _ List.mem_cons_self, List.mem_cons_of_mem _ (List.mem_cons_of_mem _ List.mem_cons_self)⟩
theorem conf {p q : Int} (h1 : 0 ≤ p * q) (h2 : q * q ≤ p * q) : (0 ≤ q ∧ q ≤ p) ∨ (p ≤ q ∧ q ≤ 0) := by
  have e : (p - q) * q = p * q - q * q := by grind
  by_cases c : 0 < q
  · refine .inl ⟨by omega, Classical.byContradiction fun z => ?_⟩
    have := Int.mul_neg_of_neg_of_pos (show p - q < 0 by omega) c
    omega
  · by_cases d : q = 0
    · rcases Int.le_total 0 p with k | k
      · exact .inl ⟨by omega, by omega⟩
      · exact .inr ⟨by omega, by omega⟩
    · refine .inr ⟨Classical.byContradiction fun z => ?_, by omega⟩
      have := Int.mul_neg_of_pos_of_neg (show 0 < p - q by omega) (show q < 0 by omega)
      omega
def yv (ll : List (List Int)) (y : T3) : Vec := fun i => if i < ll.length then (if i = 0 then y.a else if i = 1 then y.b else y.c) else if i < ll.length + 3 then -(dot (nrm ll (i - ll.length)) y) else 0
def ps (Y : Vec) : Vec := fun i => if 0 < Y i then Y i else 0
def ms (Y : Vec) : Vec := fun i => if 0 < Y i then 0 else -Y i
theorem all0 {n : Nat} {x : Vec} (hx : Ld n x) (h : sm n x ≤ 0) : ∀ i, x i = 0 := fun i => by
  by_cases hi : i < n
  · have := sm_one (g := n) (x := x) (i := i) (fun i _ => hx.1 i) hi
    have := hx.1 i
    omega
  · exact hx.2 i (by omega)
/-- two loads alike in their bill that have no parts: the kinds differ by nine at most -/
theorem np_nine {ll : List (List Int)} (h3 : ll.length ≤ 3) (ent : ∀ i j, 0 ≤ ain ll i j ∧ ain ll i j ≤ 2) (L : Lot 3 ll) {u v : Vec} (hu : Ld (ll.length + 3) u) (hv : Ld (ll.length + 3) v) (e : Bv ll 3 u = Bv ll 3 v) (ne : u ≠ v)
    (np : ∀ a b, Ld (ll.length + 3) a → Ld (ll.length + 3) b → Fit a u → Fit b v → Bv ll 3 a = Bv ll 3 b → dgv ll 3 a < dgv ll 3 u → a = b) : (∀ i, u i = 0 ∨ v i = 0) ∧ ∀ i, i < ll.length → -9 ≤ u i - v i ∧ u i - v i ≤ 9 := by
  have A := ax (b := fun _ => 0) (mu := fun _ => 0) L
  have low : ∀ {a w : Vec}, Ld (ll.length + 3) a → Ld (ll.length + 3) w → Fit a w → ¬ dgv ll 3 a < dgv ll 3 w → w = a := fun {a w} ha hw f h => by
    have d : Ld (ll.length + 3) (sb w a) := ⟨fun i => by have := f i; show 0 ≤ w i - a i; omega, fun i hi => by show w i - a i = 0; rw [hw.2 i hi, ha.2 i hi]; rfl⟩
    have h1 := sm_dg L d.1
    have h2 := A.dsb w a
    have h2 : dgv ll 3 (sb w a) = dgv ll 3 w - dgv ll 3 a := h2
    have := all0 d (by omega)
    funext i
    have h : w i - a i = 0 := this i
    omega
  have dis : ∀ i, u i = 0 ∨ v i = 0 := fun i => Classical.byContradiction fun c => by
    have u0 : u i ≠ 0 := fun z => c (.inl z)
    have v0 : v i ≠ 0 := fun z => c (.inr z)
    have := hu.1 i
    have := hv.1 i
    have hi : i < ll.length + 3 := Classical.byContradiction fun z => u0 (hu.2 i (by omega))
    have lw : ∀ {w : Vec}, Ld (ll.length + 3) w → 0 < w i → Ld (ll.length + 3) (sb w (un i)) ∧ Fit (sb w (un i)) w := fun {w} hw wp => ⟨⟨fun k => by
      show 0 ≤ w k - un i k
      unfold un
      have := hw.1 k
      split
      · rename_i q; rw [q]; omega
      · omega, fun k hk => by
      show w k - un i k = 0
      rw [hw.2 k hk]
      unfold un
      rw [if_neg (by omega)]
      rfl⟩, fun k => by
      show w k - un i k ≤ w k
      unfold un
      split <;> omega⟩
    obtain ⟨a1, a2⟩ := lw hu (by omega)
    obtain ⟨b1, b2⟩ := lw hv (by omega)
    have eB : Bv ll 3 (sb u (un i)) = Bv ll 3 (sb v (un i)) := by
      rw [A.bsub, A.bsub, e]
    by_cases h : dgv ll 3 (sb u (un i)) < dgv ll 3 u
    · have h := np _ _ a1 b1 a2 b2 eB h
      refine ne (funext fun k => ?_)
      have h : u k - un i k = v k - un i k := congrFun h k
      omega
    · have h := low a1 hu a2 h
      have h : u i = u i - un i i := congrFun h i
      unfold un at h
      rw [if_pos rfl] at h
      omega
  refine ⟨dis, ?_⟩
  -- the difference of kinds
  let Z : Vec := fun i => u i - v i
  have hZ : ∀ i, Z i = u i - v i := fun _ => rfl
  have far : ∀ i, ll.length + 3 ≤ i → Z i = 0 := fun i hi => by rw [hZ, hu.2 i hi, hv.2 i hi]; rfl
  have loose : ∀ j, j < 3 → dot (nrm ll j) (t3 ll Z) = -Z (ll.length + j) := fun j hj => by
    have h := congrFun e j
    unfold Bv at h
    rw [if_pos hj, if_pos hj, Lb3 h3, Lb3 h3] at h
    have k : dot (nrm ll j) (t3 ll Z) = dot (nrm ll j) (t3 ll u) - dot (nrm ll j) (t3 ll v) := by
      have m : ∀ (c : Prop) [Decidable c] (i : Nat), (if c then Z i else 0) = (if c then u i else 0) - (if c then v i else 0) := fun c _ i => by
        split
        · rfl
        · rfl
      unfold dot t3
      rw [m, m, m]
      grind
    rw [k, hZ]
    omega
  have ind : ∀ y, R3.part (frm ll) (t3 ll Z) y → y = z3 ∨ y = t3 ll Z := fun y hy => by
    have c1 := hy ⟨1, 0, 0⟩ (frm_u ll).1
    have c2 := hy ⟨0, 1, 0⟩ (frm_u ll).2.1
    have c3 := hy ⟨0, 0, 1⟩ (frm_u ll).2.2
    have d1 : ∀ w : T3, dot ⟨1, 0, 0⟩ w = w.a := fun w => by unfold dot; simp
    have d2 : ∀ w : T3, dot ⟨0, 1, 0⟩ w = w.b := fun w => by unfold dot; simp
    have d3 : ∀ w : T3, dot ⟨0, 0, 1⟩ w = w.c := fun w => by unfold dot; simp
    rw [d1, d1] at c1
    rw [d2, d2] at c2
    rw [d3, d3] at c3
    have f1 := conf c1.1 c1.2
    have f2 := conf c2.1 c2.2
    have f3 := conf c3.1 c3.2
    have nj : ∀ j, j < 3 → nrm ll j ∈ frm ll := fun j hj => by
      unfold frm
      have c : j = 0 ∨ j = 1 ∨ j = 2 := by omega
      rcases c with c | c | c <;> rw [c] <;> simp
    have fj : ∀ j, j < 3 → (0 ≤ dot (nrm ll j) y ∧ dot (nrm ll j) y ≤ -Z (ll.length + j)) ∨ (-Z (ll.length + j) ≤ dot (nrm ll j) y ∧ dot (nrm ll j) y ≤ 0) := fun j hj => by
      have h := hy _ (nj j hj)
      rw [loose j hj] at h
      exact conf h.1 h.2
    -- Y
    have cY : ∀ i, (0 ≤ yv ll y i ∧ yv ll y i ≤ Z i) ∨ (Z i ≤ yv ll y i ∧ yv ll y i ≤ 0) := fun i => by
      unfold yv
      by_cases hi : i < ll.length
      · rw [if_pos hi]
        have c : i = 0 ∨ i = 1 ∨ i = 2 := by omega
        unfold t3 at f1 f2 f3
        rcases c with c | c | c
        · subst c
          rw [if_pos rfl]
          simp only [if_pos hi] at f1
          exact f1
        · subst c
          rw [if_neg (by decide), if_pos rfl]
          simp only [if_pos hi] at f2
          exact f2
        · subst c
          rw [if_neg (by decide), if_neg (by decide)]
          simp only [if_pos hi] at f3
          exact f3
      · rw [if_neg hi]
        by_cases hj : i < ll.length + 3
        · rw [if_pos hj]
          have h := fj (i - ll.length) (by omega)
          have e2 : ll.length + (i - ll.length) = i := by omega
          rw [e2] at h
          omega
        · rw [if_neg hj, far i (by omega)]
          omega
    have tY : t3 ll (yv ll y) = y := by
      unfold t3 at f1 f2 f3 ⊢
      have g1 : (if 0 < ll.length then yv ll y 0 else 0) = y.a := by
        unfold yv
        split
        · rw [if_pos rfl]
        · rename_i q; simp only [if_neg q] at f1; omega
      have g2 : (if 1 < ll.length then yv ll y 1 else 0) = y.b := by
        unfold yv
        split
        · rw [if_neg (by decide), if_pos rfl]
        · rename_i q; simp only [if_neg q] at f2; omega
      have g3 : (if 2 < ll.length then yv ll y 2 else 0) = y.c := by
        unfold yv
        split
        · rw [if_neg (by decide), if_neg (by decide)]
        · rename_i q; simp only [if_neg q] at f3; omega
      rw [g1, g2, g3]
    have Yf : ∀ i, ll.length + 3 ≤ i → yv ll y i = 0 := fun i hi => by
      have := cY i
      rw [far i hi] at this
      omega
    have lY : ∀ j, j < 3 → yv ll y (ll.length + j) = -(dot (nrm ll j) y) := fun j hj => by
      unfold yv
      rw [if_neg (by omega), if_pos (by omega)]
      have e2 : ll.length + j - ll.length = j := by omega
      rw [e2]
    generalize yv ll y = Y at cY tY Yf lY
    have la : Ld (ll.length + 3) (ps Y) := ⟨fun i => by unfold ps; split <;> omega, fun i hi => by unfold ps; rw [Yf i hi]; rfl⟩
    have lb : Ld (ll.length + 3) (ms Y) := ⟨fun i => by unfold ms; split <;> omega, fun i hi => by unfold ms; rw [Yf i hi]; rfl⟩
    have hps : ∀ i, ps Y i = if 0 < Y i then Y i else 0 := fun _ => rfl
    have hms : ∀ i, ms Y i = if 0 < Y i then 0 else -Y i := fun _ => rfl
    have fa : Fit (ps Y) u := fun i => by
      have h1 := cY i
      have h2 := dis i
      have h3 := hu.1 i
      have h4 := hv.1 i
      rw [hZ] at h1
      rw [hps]
      split <;> omega
    have fb : Fit (ms Y) v := fun i => by
      have h1 := cY i
      have h2 := dis i
      have h3 := hu.1 i
      have h4 := hv.1 i
      rw [hZ] at h1
      rw [hms]
      split <;> omega
    have dY : ∀ i, Y i = ps Y i - ms Y i := fun i => by
      rw [hps, hms]
      split <;> omega
    have eB : Bv ll 3 (ps Y) = Bv ll 3 (ms Y) := by
      funext j
      unfold Bv
      by_cases hj : j < 3
      · rw [if_pos hj, if_pos hj, Lb3 h3, Lb3 h3]
        have k : dot (nrm ll j) y = dot (nrm ll j) (t3 ll (ps Y)) - dot (nrm ll j) (t3 ll (ms Y)) := by
          have m : ∀ (c : Prop) [Decidable c] (i : Nat), (if c then Y i else 0) = (if c then ps Y i else 0) - (if c then ms Y i else 0) := fun c _ i => by
            split
            · exact dY i
            · rfl
          rw [← tY]
          unfold dot t3
          rw [m, m, m]
          grind
        have h := lY j hj
        have := dY (ll.length + j)
        omega
      · rw [if_neg hj, if_neg hj]
    by_cases lt : dgv ll 3 (ps Y) < dgv ll 3 u
    · left
      have h := np _ _ la lb fa fb eB lt
      have Y0 : ∀ i, Y i = 0 := fun i => by
        rw [dY i, h]
        omega
      rw [← tY]
      unfold t3
      rw [Y0, Y0, Y0]
      simp
      rfl
    · right
      have e1 := low la hu fa lt
      have e2 := low lb hv fb (by
        have h1 : dgv ll 3 (ms Y) = dgv ll 3 (ps Y) := A.dB _ _ eB.symm
        have h2 : dgv ll 3 u = dgv ll 3 v := A.dB _ _ e
        omega)
      rw [← tY]
      congr 1
      funext i
      rw [hZ, dY i, ← e1, ← e2]
  have N := nine (frm_u ll) (frm_in ent) ind
  intro i hi
  have c : i = 0 ∨ i = 1 ∨ i = 2 := by omega
  unfold t3 at N
  rcases c with c | c | c
  · subst c
    have h := N.1
    simp only [if_pos hi] at h
    exact h
  · subst c
    have h := N.2.1
    simp only [if_pos hi] at h
    exact h
  · subst c
    have h := N.2.2
    simp only [if_pos hi] at h
    exact h
theorem nd_le3 : ∀ {l m : List T3}, l.Nodup → (∀ x ∈ l, x ∈ m) → l.length ≤ m.length
  | [], _, _, _ => Nat.zero_le _
  | x :: l, m, nd, h => by
    obtain ⟨n1, n2⟩ := List.nodup_cons.mp nd
    have hx := h x List.mem_cons_self
    have := nd_le3 (l := l) (m := m.erase x) n2 fun y hy => (List.mem_erase_of_ne (fun e => n1 (by rw [← e]; exact hy))).mpr (h y (List.mem_cons_of_mem _ hy))
    rw [List.length_erase_of_mem hx] at this
    have := List.length_pos_of_mem hx
    rw [List.length_cons]
    omega
def r19 : List Int := (List.range 19).map fun (k : Nat) => (k : Int) - 9
theorem r19_in {z : Int} (h : -9 ≤ z ∧ z ≤ 9) : z ∈ r19 := List.mem_map.mpr ⟨(z + 9).toNat, List.mem_range.mpr (by omega), by omega⟩
def box9 : List T3 := r19.flatMap fun a => r19.flatMap fun b => r19.map fun c => ⟨a, b, c⟩
theorem box9_in {x : T3} (h1 : -9 ≤ x.a ∧ x.a ≤ 9) (h2 : -9 ≤ x.b ∧ x.b ≤ 9) (h3 : -9 ≤ x.c ∧ x.c ≤ 9) : x ∈ box9 :=
  List.mem_flatMap.mpr ⟨x.a, r19_in h1, List.mem_flatMap.mpr ⟨x.b, r19_in h2, List.mem_map.mpr ⟨x.c, r19_in h3, rfl⟩⟩⟩
theorem box9_len : box9.length = 6859 := by decide +kernel
theorem nd_t3 {f : List Int → T3} : ∀ {l : List (List Int)}, l.Nodup → (∀ a ∈ l, ∀ c ∈ l, f a = f c → a = c) → (l.map f).Nodup
  | [], _, _ => List.nodup_nil
  | x :: l, nd, h => by
    obtain ⟨n1, n2⟩ := List.nodup_cons.mp nd
    refine List.nodup_cons.mpr ⟨fun z => ?_, nd_t3 n2 fun a ha c hc => h a (List.mem_cons_of_mem _ ha) c (List.mem_cons_of_mem _ hc)⟩
    obtain ⟨y, hy, e⟩ := List.mem_map.mp z
    exact n1 (h y (List.mem_cons_of_mem _ hy) x List.mem_cons_self e ▸ hy)
/-- changes of three kinds in three goods, within nine, none of them another's opposite: few -/
theorem few_nine {ll : List (List Int)} (h3 : ll.length ≤ 3) {ss : List (List Int)} (nd : ss.Nodup) (len : ∀ s ∈ ss, s.length = ll.length + 3) (ker : ∀ s ∈ ss, ∀ j, Bv ll 3 (vec s) j = 0)
    (nin : ∀ s ∈ ss, ∀ i, i < ll.length → -9 ≤ vec s i ∧ vec s i ≤ 9) (opp : ∀ s ∈ ss, ∀ t ∈ ss, ∃ i, vec t i ≠ -vec s i) : ss.length ≤ 5005 := by
  have loose : ∀ s ∈ ss, ∀ j, j < 3 → vec s (ll.length + j) = -(dot (nrm ll j) (t3 ll (vec s))) := fun s hs j hj => by
    have h := ker s hs j
    unfold Bv at h
    rw [if_pos hj, Lb3 h3] at h
    omega
  have far : ∀ s ∈ ss, ∀ i, ll.length + 3 ≤ i → vec s i = 0 := fun s hs i hi => by
    unfold vec
    rw [List.getD_eq_getElem?_getD, List.getElem?_eq_none (by rw [len s hs]; omega)]
    rfl
  -- told by the kinds
  have kin : ∀ {x y : Vec}, t3 ll x = t3 ll y → ∀ i, i < ll.length → x i = y i := fun {x y} e i hi => by
    have e1 := congrArg T3.a e
    have e2 := congrArg T3.b e
    have e3 := congrArg T3.c e
    unfold t3 at e1 e2 e3
    have c : i = 0 ∨ i = 1 ∨ i = 2 := by omega
    rcases c with c | c | c
    · subst c; simp only [if_pos hi] at e1; exact e1
    · subst c; simp only [if_pos hi] at e2; exact e2
    · subst c; simp only [if_pos hi] at e3; exact e3
  let ng : T3 → T3 := fun x => ⟨-x.a, -x.b, -x.c⟩
  have t3n : ∀ x : Vec, t3 ll (fun i => -x i) = ng (t3 ll x) := fun x => by
    have m : ∀ (c : Prop) [Decidable c] (z : Int), (if c then -z else 0) = -(if c then z else 0) := fun c _ z => by split <;> simp
    show (⟨_, _, _⟩ : T3) = ⟨_, _, _⟩
    rw [m, m, m]
    rfl
  have dng : ∀ (n x : T3), dot n (ng x) = -dot n x := fun n x => by
    show n.a * -x.a + n.b * -x.b + n.c * -x.c = -(n.a * x.a + n.b * x.b + n.c * x.c)
    grind
  have one : ∀ s ∈ ss, ∀ t ∈ ss, t3 ll (vec s) = t3 ll (vec t) → ∀ i, vec s i = vec t i := fun s hs t ht e i => by
    by_cases h1 : i < ll.length
    · exact kin e i h1
    · by_cases h2 : i < ll.length + 3
      · have h := loose s hs (i - ll.length) (by omega)
        have k := loose t ht (i - ll.length) (by omega)
        have e2 : ll.length + (i - ll.length) = i := by omega
        rw [e2] at h k
        rw [h, k, e]
      · rw [far s hs i (by omega), far t ht i (by omega)]
  have no : ∀ s ∈ ss, ∀ t ∈ ss, t3 ll (vec t) ≠ ng (t3 ll (vec s)) := fun s hs t ht e => by
    obtain ⟨i, hi⟩ := opp s hs t ht
    refine hi ?_
    by_cases h1 : i < ll.length
    · rw [← t3n] at e
      exact kin e i h1
    · by_cases h2 : i < ll.length + 3
      · have h := loose s hs (i - ll.length) (by omega)
        have k := loose t ht (i - ll.length) (by omega)
        have e2 : ll.length + (i - ll.length) = i := by omega
        rw [e2] at h k
        rw [h, k, e, dng]
      · rw [far s hs i (by omega), far t ht i (by omega)]
        rfl
  have same : ∀ s ∈ ss, ∀ t ∈ ss, (∀ i, vec s i = vec t i) → s = t := fun s hs t ht h => by
    refine List.ext_getElem (by rw [len s hs, len t ht]) fun i h1 h2 => ?_
    have := h i
    unfold vec at this
    rw [List.getD_eq_getElem?_getD, List.getD_eq_getElem?_getD, List.getElem?_eq_getElem h1, List.getElem?_eq_getElem h2] at this
    exact this
  have nd1 : (ss.map fun s => t3 ll (vec s)).Nodup := nd_t3 nd fun s hs t ht e => same s hs t ht (one s hs t ht e)
  have ngi : ∀ x y : T3, ng x = ng y → x = y := fun x y e => by
    have e1 : -x.a = -y.a := congrArg T3.a e
    have e2 : -x.b = -y.b := congrArg T3.b e
    have e3 : -x.c = -y.c := congrArg T3.c e
    cases x
    cases y
    simp at e1 e2 e3
    subst e1 e2 e3
    rfl
  have nd2 : (ss.map fun s => ng (t3 ll (vec s))).Nodup := nd_t3 nd fun s hs t ht e => same s hs t ht (one s hs t ht (ngi _ _ e))
  have nd3 : ((ss.map fun s => t3 ll (vec s)) ++ ss.map fun s => ng (t3 ll (vec s))).Nodup := List.nodup_append.mpr ⟨nd1, nd2, fun a ha c hc e => by
    obtain ⟨t, ht, rfl⟩ := List.mem_map.mp ha
    obtain ⟨s, hs, rfl⟩ := List.mem_map.mp hc
    exact no s hs t ht e⟩
  have bx : ∀ s ∈ ss, (-9 ≤ (t3 ll (vec s)).a ∧ (t3 ll (vec s)).a ≤ 9) ∧ (-9 ≤ (t3 ll (vec s)).b ∧ (t3 ll (vec s)).b ≤ 9) ∧ (-9 ≤ (t3 ll (vec s)).c ∧ (t3 ll (vec s)).c ≤ 9) := fun s hs => by
    have m : ∀ i, -9 ≤ (if i < ll.length then vec s i else 0) ∧ (if i < ll.length then vec s i else 0) ≤ 9 := fun i => by
      split
      · exact nin s hs i (by assumption)
      · exact ⟨by decide, by decide⟩
    exact ⟨m 0, m 1, m 2⟩
  have h := nd_le3 nd3 (m := box9) fun x hx => by
    rcases List.mem_append.mp hx with q | q
    · obtain ⟨s, hs, rfl⟩ := List.mem_map.mp q
      obtain ⟨b1, b2, b3⟩ := bx s hs
      exact box9_in b1 b2 b3
    · obtain ⟨s, hs, rfl⟩ := List.mem_map.mp q
      obtain ⟨b1, b2, b3⟩ := bx s hs
      exact box9_in (x := ng (t3 ll (vec s))) ⟨by show -9 ≤ -(t3 ll (vec s)).a; omega, by show -(t3 ll (vec s)).a ≤ 9; omega⟩ ⟨by show -9 ≤ -(t3 ll (vec s)).b; omega, by show -(t3 ll (vec s)).b ≤ 9; omega⟩ ⟨by show -9 ≤ -(t3 ll (vec s)).c; omega, by show -(t3 ll (vec s)).c ≤ 9; omega⟩
  rw [List.length_append, List.length_map, List.length_map, box9_len] at h
  omega
theorem sm_const {c : Int} : ∀ {g : Nat} {x : Vec}, (∀ i, i < g → x i ≤ c) → sm g x ≤ c * g
  | 0, _, _ => by
    show (0 : Int) ≤ c * 0
    omega
  | g + 1, x, h => by
    have ih := sm_const (g := g) (x := x) fun i hi => h i (by omega)
    have := h g (by omega)
    show sm g x + x g ≤ c * ((g + 1 : Nat) : Int)
    have e : c * ((g + 1 : Nat) : Int) = c * g + c := by
      rw [Int.natCast_add, Int.mul_add]
      simp
    omega
/-- such loads are small -/
theorem np_sum {ll : List (List Int)} (h3 : ll.length ≤ 3) (ent : ∀ i j, 0 ≤ ain ll i j ∧ ain ll i j ≤ 2) {u v : Vec} (hu : Ld (ll.length + 3) u) (hv : Ld (ll.length + 3) v) (e : Bv ll 3 u = Bv ll 3 v) (dis : ∀ i, u i = 0 ∨ v i = 0) (nin : ∀ i, i < ll.length → -9 ≤ u i - v i ∧ u i - v i ≤ 9) : sm (ll.length + 3) u ≤ 189 := by
  have k1 : sm ll.length u ≤ 9 * ll.length := sm_const fun i hi => by
    have := nin i hi
    have := dis i
    have := hu.1 i
    have := hv.1 i
    omega
  have k2 : sm 3 (fun j => u (ll.length + j)) ≤ 54 * (3 : Nat) := sm_const fun j hj => by
    have h := congrFun e j
    unfold Bv at h
    rw [if_pos hj, if_pos hj, Lb3 h3, Lb3 h3] at h
    have m : ∀ (c : Prop) [Decidable c] (i : Nat), (if c then u i - v i else 0) = (if c then u i else 0) - (if c then v i else 0) := fun c _ i => by
      split
      · rfl
      · rfl
    have b : ∀ i, -9 ≤ (if i < ll.length then u i - v i else 0) ∧ (if i < ll.length then u i - v i else 0) ≤ 9 := fun i => by
      split
      · exact nin i (by assumption)
      · exact ⟨by decide, by decide⟩
    have k : dot (nrm ll j) (t3 ll u) - dot (nrm ll j) (t3 ll v) = ain ll 0 j * (if 0 < ll.length then u 0 - v 0 else 0) + ain ll 1 j * (if 1 < ll.length then u 1 - v 1 else 0) + ain ll 2 j * (if 2 < ll.length then u 2 - v 2 else 0) := by
      rw [m, m, m]
      unfold dot nrm t3
      grind
    have lim : ∀ {p q : Int}, 0 ≤ p ∧ p ≤ 2 → -9 ≤ q ∧ q ≤ 9 → -18 ≤ p * q ∧ p * q ≤ 18 := fun {p q} hp hq => by
      have c : p = 0 ∨ p = 1 ∨ p = 2 := by omega
      rcases c with c | c | c <;> rw [c] <;> omega
    have l0 := lim (ent 0 j) (b 0)
    have l1 := lim (ent 1 j) (b 1)
    have l2 := lim (ent 2 j) (b 2)
    have := dis (ll.length + j)
    have := hu.1 (ll.length + j)
    have := hv.1 (ll.length + j)
    show u (ll.length + j) ≤ 54
    omega
  rw [sm_split]
  have : (9 : Int) * ll.length ≤ 27 := by omega
  have : (54 : Int) * (3 : Nat) = 162 := rfl
  omega
end BL
end HL

namespace HL
namespace BL
/-- a small lot: four kinds of one good to 3 or of two goods to 2, three kinds of three goods to 2 -/
structure SmallW (g : Nat) (ll : List Row) : Prop where
  g1 : 1 ≤ g
  g3 : g ≤ 3
  nk : ll.length ≤ if g = 3 then 3 else 4
  lot : Lot g ll
  top : ∀ h ∈ ll, ∀ n ∈ h, n ≤ if g = 1 then 3 else 2
theorem kq1_in {h : Row} (k : Kd 1 h) (t : ∀ n ∈ h, n ≤ 3) : h ∈ kq1 ∨ h ∈ unitsG 1 := by
  obtain ⟨e, h0, p, hp, hp0⟩ := k
  match h, e with
  | [x], _ =>
    have hx := List.mem_singleton.mp hp
    have t1 := t x List.mem_cons_self
    have c : x = 1 ∨ x = 2 ∨ x = 3 := by omega
    rcases c with rfl | rfl | rfl
    · exact .inr (by decide)
    · exact .inl (by decide)
    · exact .inl (by decide)
theorem ent_of {ll : List Row} (L : Lot 3 ll) (top : ∀ h ∈ ll, ∀ n ∈ h, n ≤ 2) : ∀ i j, 0 ≤ ain ll i j ∧ ain ll i j ≤ 2 := fun i j => by
  unfold ain
  by_cases hi : i < ll.length
  · have e : ll.getD i [] = ll[i] := by rw [List.getD_eq_getElem?_getD, List.getElem?_eq_getElem hi]; rfl
    rw [e, List.getD_eq_getElem?_getD]
    have hm := List.getElem_mem hi
    cases q : (ll[i])[j]? with
    | none => exact ⟨by decide, by decide⟩
    | some z =>
      have hz := List.mem_of_getElem? q
      exact ⟨(L _ hm).2.1 z hz, top _ hm z hz⟩
  · have e : ll.getD i [] = [] := by rw [List.getD_eq_getElem?_getD, List.getElem?_eq_none (by omega)]; rfl
    rw [e]
    have z : ([] : List Int).getD j 0 = 0 := rfl
    rw [z]
    exact ⟨by decide, by decide⟩
theorem few_w {g : Nat} {ll : List Row} (P : SmallW g ll) (g12 : g = 1 ∨ g = 2) {u v : Vec} (hu : Ld (ll.length + g) u) (hv : Ld (ll.length + g) v) (e : Bv ll g u = Bv ll g v) (ne : u ≠ v)
    (np : ∀ a b, Ld (ll.length + g) a → Ld (ll.length + g) b → Fit a u → Fit b v → Bv ll g a = Bv ll g b → dgv ll g a < dgv ll g u → a = b) : sm (ll.length + g) u ≤ 9 := by
  have nk := P.nk
  rcases g12 with rfl | rfl
  · exact few_lot kq1_ok (by decide) (by decide) nk (fun h hh => kq1_in (P.lot h hh) (P.top h hh)) P.lot hu hv e ne np
  · exact few_lot kq2_ok (by decide) (by decide) nk (fun h hh => kd2 (P.lot h hh) (P.top h hh)) P.lot hu hv e ne np
end BL
end HL

namespace HL
open PySem PySem.Spec PyProof.Rows L2
open C8 (pss_cut)
/-! ### the text -/
def topS (i : Nat) : Stmt := PySem.Challenge.pw_hamperlot_k42_a_picker_begun.main.body.getD i (.Pass ⟨0, 0, 0, 0⟩)
abbrev sIsHold : Stmt := topS 14
abbrev sLook : Stmt := topS 15
abbrev sGoods : Stmt := topS 16
abbrev sFirst : Stmt := topS 17
abbrev sLookBill : Stmt := topS 18
abbrev sPacked : Stmt := topS 19
abbrev sUnit : Stmt := topS 21
abbrev sOpp : Stmt := topS 22
abbrev sLess : Stmt := topS 23
abbrev sAbove : Stmt := topS 24
abbrev sCovers : Stmt := topS 25
abbrev sIsNought : Stmt := topS 26
abbrev sMarks : Stmt := topS 27
abbrev sLookWish : Stmt := topS 30
abbrev sNumbers : Stmt := topS 31
abbrev sCols : Stmt := topS 33
abbrev sCosts : Stmt := topS 34
abbrev sWorse : Stmt := topS 35
abbrev sAsksFit : Stmt := topS 36
abbrev sFitting : Stmt := topS 37
abbrev sSettled : Stmt := topS 38
abbrev sSeeds : Stmt := topS 39
abbrev sLeaves : Stmt := topS 40
abbrev sSpanned : Stmt := topS 41
abbrev sTakeIn : Stmt := topS 42
abbrev sWithinS : Stmt := topS 43
abbrev sAsLoad : Stmt := topS 44
abbrev sBestLoad : Stmt := topS 46
abbrev sFeed : Stmt := topS 54
abbrev sDraw : Stmt := topS 55
abbrev sPick : Stmt := topS 56
abbrev sSame : Stmt := topS 57
abbrev sWord : Stmt := topS 58
abbrev sGreat : Stmt := topS 59
abbrev sHold : Stmt := topS 60
abbrev sLot : Stmt := topS 61
abbrev sSmall : Stmt := topS 62
abbrev sSmallBill : Stmt := topS 63
abbrev sWish : Stmt := topS 64
abbrev sNoughts : Stmt := topS 65
abbrev sLaw : Stmt := topS 69
/-! ### heaps -/
/-- all that stood but at f stands -/
def Kp (f : Addr) (H H' : Hp) : Prop := ∀ b o, b ≠ f → H b = some o → H' b = some o
theorem Kp.refl (f : Addr) (H : Hp) : Kp f H H := fun _ _ _ h => h
theorem Kp.trans {f : Addr} {H H1 H2 : Hp} (a : Kp f H H1) (b : Kp f H1 H2) : Kp f H H2 := fun c o n h => b c o n (a c o n h)
theorem Same.kp {f : Addr} {H H' : Hp} (a : Same H H') : Kp f H H' := fun b o _ h => a b o h
theorem Kp.put {f : Addr} {H : Hp} {o : HO} : Kp f H (upd H f o) := fun b _ n h => by
  rw [upd_ne n]
  exact h
theorem same_new {H : Hp} {p : Addr} {o : HO} (h : H p = none) : Same H (upd H p o) := fun b x e => by
  rw [upd_ne (ne_of_none e h)]
  exact e
theorem Kp.new {f : Addr} {H : Hp} {p : Addr} {o : HO} (h : H p = none) : Kp f H (upd H p o) := Same.kp (same_new h)
/-- the feed at f -/
def FeedAt (c : Addr) (H : Hp) (f : Addr) : Prop := ∃ (ns : List Int) (i b m n : Int),
  H f = some (.lst [.ref c, .int i, .int b, .int m, .int n]) ∧ H c = some (.lst (ns.map V.int)) ∧ 0 ≤ i ∧ 0 ≤ b ∧ 0 ≤ m ∧ m < 2147483647
theorem FeedAt.same {c : Addr} {H H' : Hp} {f : Addr} (F : FeedAt c H f) (s : Same H H') : FeedAt c H' f := by
  obtain ⟨ns, i, b, m, n, h1, h2, h3⟩ := F
  exact ⟨ns, i, b, m, n, s _ _ h1, s _ _ h2, h3⟩
theorem FeedAt.new {c : Addr} {H : Hp} {f p : Addr} {o : HO} (F : FeedAt c H f) (h : H p = none) : FeedAt c (upd H p o) f := F.same (same_new h)
theorem FeedAt.ne {c : Addr} {H : Hp} {f p : Addr} (F : FeedAt c H f) (h : H p = none) : p ≠ f := by
  obtain ⟨ns, i, b, m, n, h1, _⟩ := F
  exact fun e => by
    rw [e, h1] at h
    cases h
theorem FeedAt.neC {c : Addr} {H : Hp} {f p : Addr} (F : FeedAt c H f) (h : H p = none) : p ≠ c := by
  obtain ⟨ns, i, b, m, n, _, h1, _⟩ := F
  exact fun e => by
    rw [e, h1] at h
    cases h
theorem FeedAt.tup {c : Addr} {H : Hp} {f p : Addr} {xs : List V} (F : FeedAt c H f) (h : H p = some (.tup xs)) : p ≠ f := by
  obtain ⟨ns, i, b, m, n, h1, _⟩ := F
  exact ne_of h h1 (fun e => by cases e)
/-- another thing than the feed is written -/
theorem FeedAt.put {c : Addr} {H : Hp} {f D : Addr} {o : HO} (F : FeedAt c H f) (n1 : D ≠ f) (n2 : D ≠ c) : FeedAt c (upd H D o) f := by
  obtain ⟨ns, i, b, m, n, h1, h2, h3⟩ := F
  exact ⟨ns, i, b, m, n, by rw [upd_ne (Ne.symm n1)]; exact h1, by rw [upd_ne (Ne.symm n2)]; exact h2, h3⟩
/-- where nothing stood behind, nothing stood ahead -/
theorem Kp.free {f : Addr} {H H' : Hp} {p : Addr} (k : Kp f H H') (n : p ≠ f) (h : H' p = none) : H p = none := by
  cases e : H p with
  | none => rfl
  | some o =>
    rw [k _ _ n e] at h
    cases h
/-- what is new since H may be written -/
theorem Kp.late {f : Addr} {H H' : Hp} {D : Addr} {o : HO} (k : Kp f H H') (nD : H D = none) : Kp f H (upd H' D o) := fun b x n e => by
  rw [upd_ne (ne_of_none e nD)]
  exact k _ _ n e
theorem same_late {H H' : Hp} {D : Addr} {o : HO} (k : Same H H') (nD : H D = none) : Same H (upd H' D o) := fun b x e => by
  rw [upd_ne (ne_of_none e nD)]
  exact k _ _ e
theorem ref_ne {c : Addr} {ns : List Int} {r : List V} : (V.ref c :: r) ≠ ns.map V.int := by
  cases ns with
  | nil => exact fun e => by cases e
  | cons x xs => exact fun e => by simp at e
/-! ### the feed -/
theorem scFeed : FnScope ["_law_script"] ["_law_script"] (defScope sFeed) := ⟨rfl, rfl, rfl, by decide +kernel, rfl, by decide +kernel, by decide +kernel⟩
theorem scDraw : FnScope ["_law_feed_here", "_law_many", "_law_cell", "_law_digit", "_law_mix"] ["_law_feed_here", "_law_many"] (defScope sDraw) := ⟨rfl, rfl, rfl, by decide +kernel, rfl, by decide +kernel, by decide +kernel⟩
theorem scPick : FnScope ["_law_feed_here", "_law_row"] ["_law_feed_here", "_law_row"] (defScope sPick) := ⟨rfl, rfl, rfl, by decide +kernel, rfl, by decide +kernel, by decide +kernel⟩
section
variable {P : Program} {w : World} {K : PySem.W.Frag} {mg : Str → Option Value} {base : Heap}
def spFeed (K : PySem.W.Frag) : Sp := fun vs H Q _ => ∃ (a : Addr) (ns : List Int), vs = [.ref a] ∧ SqL K H a (ns.map V.int) ∧ ns.length ≤ 63 ∧
  ∀ H' f c, Same H H' → H f = none → FeedAt c H' f → Q (.ref f) H'
theorem cut_ints (ns : List Int) (lo hi : Option Int) : ∃ ms : List Int, cutV (ns.map V.int) lo hi = ms.map V.int := by
  refine ⟨(ns.drop (HT.sIx ns.length 0 lo)).take (HT.sIx ns.length ns.length hi - HT.sIx ns.length 0 lo), ?_⟩
  unfold cutV
  rw [List.length_map, List.map_take, List.map_drop]
theorem ok_feed {f : Addr} {fd : FuncData} {k : Nat} (F : Fun K "_law_feed" "_law_feed" sFeed f fd) (ml : mg "list" = none) : FnOk P w K mg base CX0 (k + 1) f fd ["_law_script"] (spFeed K) := by
  refine F.ok scFeed (fun vs H Q E h => ?_) (fun cdv A outer s H vs Q E hr h => ?_)
  · obtain ⟨a, ns, rfl, _⟩ := h
    rfl
  · obtain ⟨a, ns, rfl, hS, hlen, q⟩ := h
    refine ⟨_, pss_one (ps_ret (pe_lst (pa_cons (pe_callTy call_list_of (by rfl) ml (by decide +kernel) (pa_cons (pe_slice sl_list (pv 0) po_none (po_some pe_int)) pa_nil)) (pa_cons pe_int (pa_cons pe_int (pa_cons pe_int (pa_cons pe_int pa_nil))))))), ?_⟩
    obtain ⟨ms, hms⟩ := cut_ints ns none (some 63)
    refine ⟨.ref a, rfl, 63, rfl, a, ns.map V.int, rfl, hS, fun c nc => ?_⟩
    rw [hms]
    refine ⟨c, ms.map V.int, rfl, .inl (SqL.of upd_same), fun l nl => ?_⟩
    refine ⟨(by show 5 ≤ sizeLine; decide), fun g ng => ?_⟩
    refine q _ g l ?_ ?_ ⟨ms, 0, 0, 9132, 0, upd_same, ?_, by decide, by decide, by decide, by decide⟩
    · exact (same_new nc).trans ((same_new nl).trans (same_new ng))
    · exact (same_new nc).free ((same_new nl).free ng)
    · rw [upd_ne (fun e => by rw [← e, upd_same] at ng; cases ng), upd_same]

theorem atI_int {ns : List Int} {i : Int} (h0 : 0 ≤ i) (h1 : i < (ns.length : Nat)) : ∃ z, atI (ns.map V.int) i = some (.int z) := by
  have hl : i.toNat < ns.length := by omega
  refine ⟨ns[i.toNat], ?_⟩
  have e : ((i.toNat : Nat) : Int) = i := by omega
  refine (congrArg (atI (ns.map V.int)) e.symm).trans (atI_nat (j := i.toNat) ?_)
  rw [List.getElem?_map, List.getElem?_eq_getElem hl]
  rfl
def spDraw : Sp := fun vs H Q _ => ∃ (f c : Addr) (n : Int), vs = [.ref f, .int n] ∧ 1 ≤ n ∧ n ≤ 1000000000000000000000000000000 ∧ FeedAt c H f ∧
  ∀ d H', 0 ≤ d → d < n → Kp f H H' → FeedAt c H' f → Q (.int d) H'
theorem ok_draw {f : Addr} {fd : FuncData} {k : Nat} (F : Fun K "_law_draw" "_law_draw" sDraw f fd) (ml : mg "len" = none) : FnOk P w K mg base CX0 (k + 1) f fd ["_law_feed_here", "_law_many"] spDraw := by
  refine F.ok scDraw (fun vs H Q E h => ?_) (fun cdv A outer s H vs Q E hr h => ?_)
  · obtain ⟨a, c, n, rfl, _⟩ := h
    rfl
  · obtain ⟨a, c, n, rfl, n1, n2, ⟨ns, i, b, m, t, h1, h2, i0, b0, m0, m1⟩, q⟩ := h
    refine ⟨_, pss_cut (ps_if (PW.pt (pw_and (pt_cmpR op_lt (pe_ix ix_list (pv 0) pe_int (fun _ _ => rfl)) (pv 1) (nomark _))
          (pw_and1 (pt_cmpR op_lt (pe_ix ix_list (pv 0) pe_int (fun _ _ => rfl)) (pe_callB call_len_seq (by rfl) ml PySem.boot_len (pa_cons (pe_ix ix_list (pv 0) pe_int (fun _ _ => rfl)) pa_nil)) (nomark _)))))
        (pss_cons (ps_set (i := 2) scDraw.nd rfl (.inl rfl) (pe_ix ix_list (pe_ix ix_list (pv 0) pe_int (fun _ _ => rfl)) (pe_ix ix_list (pv 0) pe_int (fun _ _ => rfl)) (fun _ _ => rfl)))
        (pss_cons (ps_asg (pe_op op_add (pe_ix ix_list (pv 0) pe_int (fun _ _ => rfl)) pe_int) (pg_sub (pv 0) pe_int set_list))
        (pss_cons (ps_asg pe_int (pg_sub (pv 0) pe_int set_list))
        (pss_one (ps_if (pt_cmpR op_ge (pv 2) (pe_op op_pow pe_int pe_int) (nomark _))
          (pss_one (ps_asg (pv 2) (pg_sub (pv 0) pe_int set_list)))
          (pss_one (ps_asg (pe_op op_mod (pe_op op_add (pe_op op_add (pe_op op_mul (pe_ix ix_list (pv 0) pe_int (fun _ _ => rfl)) pe_int) (pe_op op_mul (pe_op op_mod (pv 2) pe_int) pe_int)) pe_int) pe_int) (pg_sub (pv 0) pe_int set_list))))))))
        pss_nil)
      (pss_cons (ps_if (pt_cmpR op_ge (pe_ix ix_list (pv 0) pe_int (fun _ _ => rfl)) (pv 1) (nomark _))
        (pss_cons (ps_set (i := 3) scDraw.nd rfl (.inl rfl) (pe_op op_mod (pe_ix ix_list (pv 0) pe_int (fun _ _ => rfl)) (pv 1)))
        (pss_cons (ps_asg (pe_op op_fdivW (pe_ix ix_list (pv 0) pe_int (fun _ _ => rfl)) (pv 1)) (pg_sub (pv 0) pe_int set_list))
        (pss_one (ps_ret (pv 3))))) pss_nil)
      (pss_cons (ps_asg (pe_op op_add (pe_ix ix_list (pv 0) pe_int (fun _ _ => rfl)) pe_int) (pg_sub (pv 0) pe_int set_list))
      (pss_cons (ps_set (i := 4) scDraw.nd rfl (.inl rfl) (pe_ix ix_list (pv 0) pe_int (fun _ _ => rfl)))
      (pss_cons (ps_set (i := 4) scDraw.nd rfl (.inl rfl) (pe_op op_add (pe_op op_add (pe_op op_add (pe_op op_mul (pe_op op_mod (pe_op op_mul (pv 4) (pv 4)) pe_int) pe_int) (pe_op op_mul (pv 4) pe_int)) (pe_op op_mul pe_int (pe_ix ix_list (pv 0) pe_int (fun _ _ => rfl)))) pe_int))
      (pss_cons (ps_asg (pe_op op_mod (pv 4) pe_int) (pg_sub (pv 0) pe_int set_list))
      (pss_one (ps_ret (pe_op op_mod (pe_op op_add (pe_op op_fdiv (pe_ix ix_list (pv 0) pe_int (fun _ _ => rfl)) pe_int) (pe_op op_mul (pe_op op_mod (pe_ix ix_list (pv 0) pe_int (fun _ _ => rfl)) pe_int) pe_int)) (pv 1))))))))), ?_⟩
    have hca : c ≠ a := fun e => by
      rw [e, h1] at h2
      exact ref_ne (HO.lst.inj (Option.some.inj h2))
    refine ⟨fun σ' H' => ∃ (y2 : Option V) (i b m t : Int), σ' = [some (.ref a), some (.int n), y2, none, none] ∧ Kp a H H' ∧ H' a = some (.lst [.ref c, .int i, .int b, .int m, .int t]) ∧ 0 ≤ i ∧ 0 ≤ b ∧ 0 ≤ m ∧ m < 2147483647, ?_, ?_⟩
    · refine ⟨.ref a, rfl, a, _, 2, .int b, rfl, rfl, SqL.of h1, atI_nat (j := 2) rfl, .int n, rfl, b, n, rfl, rfl, _, rfl, ite2 (fun c1 => ?_) (fun c1 => ?_)⟩
      · refine ⟨.ref a, rfl, a, _, 1, .int i, rfl, rfl, SqL.of h1, atI_nat (j := 1) rfl, .ref a, rfl, a, _, 0, .ref c, rfl, rfl, SqL.of h1, atI_nat (j := 0) rfl, c, _, rfl, .inl (SqL.of h2), i, _, rfl, rfl, _, rfl, ite2 (fun c2 => ?_) (fun c2 => ?_)⟩
        · have hi : i < (ns.length : Nat) := by
            have := of_decide_eq_true c2
            rw [List.length_map] at this
            exact this
          obtain ⟨z, hz⟩ := atI_int i0 hi
          refine ⟨.ref a, rfl, a, _, 0, .ref c, rfl, rfl, SqL.of h1, atI_nat (j := 0) rfl, .ref a, rfl, a, _, 1, .int i, rfl, rfl, SqL.of h1, atI_nat (j := 1) rfl, c, _, i, .int z, rfl, rfl, SqL.of h2, hz, ?_⟩
          refine ⟨.ref a, rfl, a, _, 1, .int i, rfl, rfl, SqL.of h1, atI_nat (j := 1) rfl, i, 1, rfl, rfl, .ref a, rfl, a, _, 1, 1, rfl, rfl, h1, rfl, ?_⟩
          refine ⟨.ref a, rfl, a, _, 2, 2, rfl, rfl, upd_same, rfl, ?_⟩
          refine ⟨.int z, rfl, 10, 18, rfl, rfl, ⟨by decide, by decide, by decide⟩, z, _, rfl, rfl, _, rfl, ite2 (fun c3 => ?_) (fun c3 => ?_)⟩
          · have z0 : (10 : Int) ^ (18 : Int).toNat ≤ z := of_decide_eq_true c3
            have z1 : (0 : Int) ≤ z := Int.le_trans (by decide) z0
            refine ⟨.int z, rfl, .ref a, rfl, a, _, 2, 2, rfl, rfl, upd_same, rfl, ?_⟩
            exact ⟨_, i + 1, z, m, t, rfl, Kp.put.trans (Kp.put.trans Kp.put), upd_same, by omega, z1, m0, m1⟩
          · refine ⟨.ref a, rfl, a, _, 3, .int m, rfl, rfl, SqL.of upd_same, atI_nat (j := 3) rfl, m, 48271, rfl, rfl, .inr ⟨by decide, by decide⟩, .int z, rfl, z, 1000000007, rfl, rfl, (by show (0 : Int) < 1000000007; decide), _, 69621, rfl, rfl, .inr ⟨by decide, by decide⟩, _, _, rfl, rfl, _, 11, rfl, rfl, _, 2147483647, rfl, rfl, (by show (0 : Int) < 2147483647; decide), .ref a, rfl, a, _, 3, 3, rfl, rfl, upd_same, rfl, ?_⟩
            exact ⟨_, i + 1, 0, _, t, rfl, Kp.put.trans (Kp.put.trans Kp.put), upd_same, by omega, by decide, Int.emod_nonneg _ (by decide), Int.emod_lt_of_pos _ (by decide)⟩
        · exact ⟨none, i, b, m, t, rfl, Kp.refl _ _, h1, i0, b0, m0, m1⟩
      · exact ⟨none, i, b, m, t, rfl, Kp.refl _ _, h1, i0, b0, m0, m1⟩
    · rintro σ' H' ⟨y2, i, b, m, t, rfl, kp, g1, i0, b0, m0, m1⟩
      have g2 : H' c = some (.lst (ns.map V.int)) := kp _ _ hca h2
      refine ⟨.ref a, rfl, a, _, 2, .int b, rfl, rfl, SqL.of g1, atI_nat (j := 2) rfl, .int n, rfl, b, n, rfl, rfl, _, rfl, ite2 (fun c1 => ?_) (fun c1 => ?_)⟩
      · refine ⟨.ref a, rfl, a, _, 2, .int b, rfl, rfl, SqL.of g1, atI_nat (j := 2) rfl, .int n, rfl, b, n, rfl, rfl, (by show (0 : Int) < n; omega), ?_⟩
        refine ⟨.ref a, rfl, a, _, 2, .int b, rfl, rfl, SqL.of g1, atI_nat (j := 2) rfl, .int n, rfl, b, n, rfl, rfl, wide_div (b := 100) (by omega) (by omega) (by decide) (by decide), .ref a, rfl, a, _, 2, 2, rfl, rfl, g1, rfl, ?_⟩
        refine ⟨_, rfl, q _ _ (Int.emod_nonneg _ (by omega)) (Int.emod_lt_of_pos _ (by omega)) (kp.trans Kp.put) ⟨ns, i, _, m, t, upd_same, ?_, i0, Int.ediv_nonneg b0 (by omega), m0, m1⟩⟩
        rw [upd_ne hca]
        exact g2
      · refine ⟨.ref a, rfl, a, _, 4, .int t, rfl, rfl, SqL.of g1, atI_nat (j := 4) rfl, t, 1, rfl, rfl, .ref a, rfl, a, _, 4, 4, rfl, rfl, g1, rfl, ?_⟩
        refine ⟨.ref a, rfl, a, _, 3, .int m, rfl, rfl, SqL.of upd_same, atI_nat (j := 3) rfl, ?_⟩
        refine ⟨.int m, rfl, .int m, rfl, m, m, rfl, rfl, .inl ⟨by omega, by omega⟩, _, 2147483587, rfl, rfl, (by show (0 : Int) < 2147483587; decide), _, 16807, rfl, rfl, .inr ⟨by decide, by decide⟩, .int m, rfl, m, 48271, rfl, rfl, .inr ⟨by decide, by decide⟩, _, _, rfl, rfl, .ref a, rfl, a, _, 4, .int (t + 1), rfl, rfl, SqL.of upd_same, atI_nat (j := 4) rfl, 97, t + 1, rfl, rfl, .inl ⟨by decide, by decide⟩, _, _, rfl, rfl, _, 12345, rfl, rfl, ?_⟩
        refine ⟨_, rfl, _, 2147483647, rfl, rfl, (by show (0 : Int) < 2147483647; decide), .ref a, rfl, a, _, 3, 3, rfl, rfl, upd_same, rfl, ?_⟩
        refine ⟨.ref a, rfl, a, _, 3, _, rfl, rfl, SqL.of upd_same, atI_nat (j := 3) rfl, _, 64, rfl, rfl, ⟨by decide, by decide⟩, .ref a, rfl, a, _, 3, _, rfl, rfl, SqL.of upd_same, atI_nat (j := 3) rfl, _, 4093, rfl, rfl, (by show (0 : Int) < 4093; decide), _, 31, rfl, rfl, .inr ⟨by decide, by decide⟩, _, _, rfl, rfl, .int n, rfl, _, n, rfl, rfl, (by show (0 : Int) < n; omega), ?_⟩
        refine q _ _ (Int.emod_nonneg _ (by omega)) (Int.emod_lt_of_pos _ (by omega)) (kp.trans (Kp.put.trans Kp.put)) ⟨ns, i, b, _, t + 1, upd_same, ?_, i0, b0, Int.emod_nonneg _ (by decide), Int.emod_lt_of_pos _ (by decide)⟩
        rw [upd_ne hca, upd_ne hca]
        exact g2
end
end HL

namespace HL
open PySem PySem.Spec PyProof.Rows L2
open C8 (pss_cut)
/-- a def of the module as its callers take it -/
structure Cal (P : Program) (w : World) (K : PySem.W.Frag) (mg : Str → Option Value) (base : Heap) (CX : CXT) (j : Nat) (x : Str) (ps : List Str) (sp : Sp) : Prop where
  ex : ∃ f fd, FnOk P w K mg base CX j f fd ps sp ∧ mg x = some (.ref f) ∧ PySem.W.keepIn K (.ref f) = true ∧ Binds K fd ps []
section
variable {P : Program} {w : World} {K : PySem.W.Frag} {mg : Str → Option Value} {base : Heap}
/-! ### pick -/
def spPick : Sp := fun vs H Q _ => ∃ (f c r : Addr) (xs : List V), vs = [.ref f, .ref r] ∧ H r = some (.lst xs) ∧ r ≠ f ∧ 1 ≤ xs.length ∧ xs.length ≤ 1000000 ∧ FeedAt c H f ∧
  ∀ v H', v ∈ xs → Kp f H H' → FeedAt c H' f → Q v H'
theorem atI_mem {xs : List V} {i : Int} (h0 : 0 ≤ i) (h1 : i < (xs.length : Nat)) : ∃ z, atI xs i = some z ∧ z ∈ xs ∧ xs[i.toNat]? = some z := by
  have hl : i.toNat < xs.length := by omega
  have e : ((i.toNat : Nat) : Int) = i := by omega
  exact ⟨xs[i.toNat], (congrArg (atI xs) e.symm).trans (atI_nat (j := i.toNat) (List.getElem?_eq_getElem hl)), List.getElem_mem hl, List.getElem?_eq_getElem hl⟩
theorem ok_pick {f : Addr} {fd : FuncData} (F : Fun K "_law_pick" "_law_pick" sPick f fd) (ml : mg "len" = none) (CD : Cal P w K mg base CX0 1 "_law_draw" ["_law_feed_here", "_law_many"] spDraw) :
    FnOk P w K mg base CX0 2 f fd ["_law_feed_here", "_law_row"] spPick := by
  obtain ⟨fD, fdD, GD, gD, kD, bD⟩ := CD.ex
  refine F.ok scPick (fun vs H Q E h => ?_) (fun cdv A outer s H vs Q E hr h => ?_)
  · obtain ⟨a, c, r, xs, rfl, _⟩ := h
    rfl
  · obtain ⟨a, c, r, xs, rfl, hx, hne, l1, l2, Fd, q⟩ := h
    refine ⟨_, pss_one (ps_ret (pe_ix ix_list (pv 1) (pe_call GD hr (by rfl) gD kD bD .nil pass0 (pa_cons (pv 0) (pa_cons (pe_callB call_len_seq (by rfl) ml PySem.boot_len (pa_cons (pv 1) pa_nil)) pa_nil))) (fun _ _ => rfl))), ?_⟩
    refine ⟨.ref r, rfl, .ref a, rfl, .ref r, rfl, r, xs, rfl, .inl (SqL.of hx), a, c, (xs.length : Nat), rfl, by omega, by omega, Fd, fun d H' d0 d1 kp F' => ?_⟩
    obtain ⟨z, hz, hm, _⟩ := atI_mem d0 d1
    exact ⟨r, xs, d, z, rfl, rfl, SqL.of (kp _ _ hne hx), hz, q z H' hm kp F'⟩
/-! ### same -/
def leafV : V → Bool
  | .non => true
  | .bl _ => true
  | .int _ => true
  | .str _ => true
  | _ => false
/-- alike at depth d: leaves, or lists or tuples of such -/
def Eqd (H : Hp) : Nat → V → V → Prop
  | 0, x, y => x = y ∧ leafV x = true
  | d + 1, x, y => (x = y ∧ leafV x = true) ∨ ∃ (a b : Addr) (xs ys : List V), x = .ref a ∧ y = .ref b ∧ ((H a = some (.lst xs) ∧ H b = some (.lst ys)) ∨ (H a = some (.tup xs) ∧ H b = some (.tup ys))) ∧
      xs.length = ys.length ∧ xs.length ≤ 1000 ∧ ∀ (i : Nat) (x y : V), xs[i]? = some x → ys[i]? = some y → Eqd H d x y
theorem Eqd.same {H H' : Hp} (s : Same H H') : ∀ {d : Nat} {x y : V}, Eqd H d x y → Eqd H' d x y
  | 0, _, _, h => h
  | d + 1, _, _, .inl h => .inl h
  | d + 1, _, _, .inr ⟨a, b, xs, ys, ex, ey, hs, hl, hz, ih⟩ => .inr ⟨a, b, xs, ys, ex, ey, hs.imp (fun q => ⟨s _ _ q.1, s _ _ q.2⟩) (fun q => ⟨s _ _ q.1, s _ _ q.2⟩), hl, hz, fun i x y h1 h2 => Eqd.same s (ih i x y h1 h2)⟩
def spSame (d : Nat) : Sp := fun vs H Q _ => ∃ x y, vs = [x, y] ∧ Eqd H d x y ∧ ∀ H', Same H H' → Q (.bl true) H'
theorem scSame : FnScope ["_law_found", "_law_due", "_law_at"] ["_law_found", "_law_due"] (defScope sSame) := ⟨rfl, rfl, rfl, by decide +kernel, rfl, by decide +kernel, by decide +kernel⟩
structure Bl (mg : Str → Option Value) : Prop where
  len : mg "len" = none
  list : mg "list" = none
  tuple : mg "tuple" = none
  dict : mg "dict" = none
  str : mg "str" = none
  int : mg "int" = none
  bool : mg "bool" = none
  isinstance : mg "isinstance" = none
  all : mg "all" = none
  range : mg "range" = none
  sum : mg "sum" = none
  min : mg "min" = none
  max : mg "max" = none
  enumerate : mg "enumerate" = none
theorem ok_same_leaf {f : Addr} {fd : FuncData} {k : Nat} (F : Fun K "_law_same" "_law_same" sSame f fd) (B : Bl mg) : FnOk P w K mg base CX0 (k + 1) f fd ["_law_found", "_law_due"] (spSame 0) := by
  refine F.ok scSame (fun vs H Q E h => ?_) (fun cdv A outer s H vs Q E hr h => ?_)
  · obtain ⟨x, y, rfl, _⟩ := h
    rfl
  · obtain ⟨x, y, rfl, ⟨rfl, hlf⟩, q⟩ := h
    refine ⟨_, pss_cons (ps_if (pt_cmpR op_isN (pv 1) pe_non (nomark _)) (pss_one (ps_ret (pe_cmp (pc_isN (pv 0)) rfl))) pss_nil)
      (pss_cons (ps_if (pt_val (pe_callB call_isi (by rfl) B.isinstance (by decide +kernel) (pa_cons (pv 1) (pa_cons (pe_bltn (v := .ty "bool") (by rfl) B.bool (by decide +kernel) rfl) pa_nil))))
          (pss_one (ps_ret (pe_and (pe_callB call_isi (by rfl) B.isinstance (by decide +kernel) (pa_cons (pv 0) (pa_cons (pe_bltn (v := .ty "bool") (by rfl) B.bool (by decide +kernel) rfl) pa_nil))) (pe_one (pe_cmpR op_eq (pv 0) (pv 1) (nomark _)))))) pss_nil)
      (pss_cons (ps_if (pt_val (pe_callB call_isi (by rfl) B.isinstance (by decide +kernel) (pa_cons (pv 1) (pa_cons (pe_bltn (v := .ty "int") (by rfl) B.int (by decide +kernel) rfl) pa_nil))))
          (pss_one (ps_ret (pe_and (pe_callB call_isi (by rfl) B.isinstance (by decide +kernel) (pa_cons (pv 0) (pa_cons (pe_bltn (v := .ty "int") (by rfl) B.int (by decide +kernel) rfl) pa_nil)))
            (pe_and (pe_not (pe_callB call_isi (by rfl) B.isinstance (by decide +kernel) (pa_cons (pv 0) (pa_cons (pe_bltn (v := .ty "bool") (by rfl) B.bool (by decide +kernel) rfl) pa_nil)))) (pe_one (pe_cmpR op_eq (pv 0) (pv 1) (nomark _))))))) pss_nil)
      (pss_cons (ps_if (pt_val (pe_callB call_isi (by rfl) B.isinstance (by decide +kernel) (pa_cons (pv 1) (pa_cons (pe_bltn (v := .ty "str") (by rfl) B.str (by decide +kernel) rfl) pa_nil))))
          (pss_one (ps_ret (pe_and (pe_callB call_isi (by rfl) B.isinstance (by decide +kernel) (pa_cons (pv 0) (pa_cons (pe_bltn (v := .ty "str") (by rfl) B.str (by decide +kernel) rfl) pa_nil))) (pe_one (pe_cmpR op_eq (pv 0) (pv 1) (nomark _)))))) pss_nil)
      pss_never))), ?_⟩
    cases x with
    | non => exact ⟨_, rfl, rfl, _, rfl, iteT ⟨_, rfl, q _ (Same.refl _)⟩⟩
    | bl b =>
      refine ⟨_, rfl, rfl, _, rfl, iteF ?_⟩
      refine ⟨_, rfl, _, _, _, _, true, rfl, .ty "bool", .base (.bl b), kit_ty (by decide +kernel), _, rfl, iteT ?_⟩
      refine ⟨_, rfl, _, _, _, _, true, rfl, .ty "bool", .base (.bl b), kit_ty (by decide +kernel), _, rfl, iteT ?_⟩
      refine ⟨_, rfl, _, rfl, rfl, ?_⟩
      rw [decide_eq_true rfl]
      exact q _ (Same.refl _)
    | int i =>
      refine ⟨_, rfl, rfl, _, rfl, iteF ?_⟩
      refine ⟨_, rfl, _, _, _, _, false, rfl, .ty "bool", .base (.int i), kit_ty (by decide +kernel), _, rfl, iteF ?_⟩
      refine ⟨_, rfl, _, _, _, _, true, rfl, .ty "int", .base (.int i), kit_ty (by decide +kernel), _, rfl, iteT ?_⟩
      refine ⟨_, rfl, _, _, _, _, true, rfl, .ty "int", .base (.int i), kit_ty (by decide +kernel), _, rfl, iteT ?_⟩
      refine ⟨_, rfl, _, _, _, _, false, rfl, .ty "bool", .base (.int i), kit_ty (by decide +kernel), _, rfl, _, rfl, iteT ?_⟩
      refine ⟨_, rfl, _, rfl, rfl, ?_⟩
      rw [decide_eq_true rfl]
      exact q _ (Same.refl _)
    | str z =>
      refine ⟨_, rfl, rfl, _, rfl, iteF ?_⟩
      refine ⟨_, rfl, _, _, _, _, false, rfl, .ty "bool", .base (.str z), kit_ty (by decide +kernel), _, rfl, iteF ?_⟩
      refine ⟨_, rfl, _, _, _, _, false, rfl, .ty "int", .base (.str z), kit_ty (by decide +kernel), _, rfl, iteF ?_⟩
      refine ⟨_, rfl, _, _, _, _, true, rfl, .ty "str", .base (.str z), kit_ty (by decide +kernel), _, rfl, iteT ?_⟩
      refine ⟨_, rfl, _, _, _, _, true, rfl, .ty "str", .base (.str z), kit_ty (by decide +kernel), _, rfl, iteT ?_⟩
      refine ⟨_, rfl, _, rfl, rfl, ?_⟩
      rw [decide_eq_true rfl]
      exact q _ (Same.refl _)
    | byt b => cases hlf
    | flt b => cases hlf
    | ref a => cases hlf
    | ty n => cases hlf

theorem leaf_or {H : Hp} {d : Nat} {x y : V} (h : Eqd H d x y) (hx : leafV x = true) : x = y := by
  cases d with
  | zero => exact h.1
  | succ d =>
    rcases h with h | ⟨a, b, xs, ys, rfl, _⟩
    · exact h.1
    · cases hx
/-- what isinstance tells of a list or tuple that is tracked -/
theorem seq_ty {K : PySem.W.Frag} {H : Hp} {a b : Addr} {xs ys : List V} (h : (H a = some (.lst xs) ∧ H b = some (.lst ys)) ∨ (H a = some (.tup xs) ∧ H b = some (.tup ys))) :
    ∃ (T : String) (bt bl : Bool), TyX K H (.ref a) (.type T) ∧ TyX K H (.ref b) (.type T) ∧ kitB T "bool" = some false ∧ kitB T "int" = some false ∧ kitB T "str" = some false ∧ kitB T "dict" = some false ∧ kitB T "tuple" = some bt ∧ kitB T "list" = some bl := by
  rcases h with ⟨h1, h2⟩ | ⟨h1, h2⟩
  · exact ⟨"list", false, true, .base (.lst h1), .base (.lst h2), by decide +kernel, by decide +kernel, by decide +kernel, by decide +kernel, by decide +kernel, by decide +kernel⟩
  · exact ⟨"tuple", true, false, .base (.tup h1), .base (.tup h2), by decide +kernel, by decide +kernel, by decide +kernel, by decide +kernel, by decide +kernel, by decide +kernel⟩
theorem fnEither {CX : CXT} {k : Nat} {f : Addr} {fd : FuncData} {ps : List Str} {sp sp1 sp2 : Sp} (F1 : FnOk P w K mg base CX k f fd ps sp1) (F2 : FnOk P w K mg base CX k f fd ps sp2) (h : ∀ vs H Q E, sp vs H Q E → sp1 vs H Q E ∨ sp2 vs H Q E) : FnOk P w K mg base CX k f fd ps sp where
  len := fun vs H Q E q => (h vs H Q E q).elim (F1.len vs H Q E) (F2.len vs H Q E)
  run := fun A outer s H args us vs Q E hr e0 hb r q => (h vs H Q E q).elim (F1.run A outer s H args us vs Q E hr e0 hb r) (F2.run A outer s H args us vs Q E hr e0 hb r)
theorem yes {σ : L2.St} {H : Hp} {Q : Bool → Hp → Prop} (h : Q true H) : tYes σ H Q := h
theorem bl_self (b : Bool) : (!decide (V.bl b = V.bl b)) = false := by rw [decide_eq_true rfl]; rfl
theorem ok_same_step {f : Addr} {fd : FuncData} {d : Nat} (F : Fun K "_law_same" "_law_same" sSame f fd) (B : Bl mg) (gS : mg "_law_same" = some (.ref f)) (kS : PySem.W.keepIn K (.ref f) = true) (bS : Binds K fd ["_law_found", "_law_due"] [])
    (G : FnOk P w K mg base CX0 (d + 1) f fd ["_law_found", "_law_due"] (spSame d)) : FnOk P w K mg base CX0 (d + 2) f fd ["_law_found", "_law_due"] (spSame (d + 1)) := by
  have key : FnOk P w K mg base CX0 (d + 2) f fd ["_law_found", "_law_due"] (fun vs H Q _ => ∃ (a b : Addr) (xs ys : List V), vs = [.ref a, .ref b] ∧ ((H a = some (.lst xs) ∧ H b = some (.lst ys)) ∨ (H a = some (.tup xs) ∧ H b = some (.tup ys))) ∧
      xs.length = ys.length ∧ xs.length ≤ 1000 ∧ (∀ (i : Nat) (x y : V), xs[i]? = some x → ys[i]? = some y → Eqd H d x y) ∧ ∀ H', Same H H' → Q (.bl true) H') := by
    refine F.ok scSame (fun vs H Q E h => ?_) (fun cdv A outer s H vs Q E hr h => ?_)
    · obtain ⟨a, b, xs, ys, rfl, _⟩ := h
      rfl
    · obtain ⟨a, b, xs, ys, rfl, hs, hl, hz, hE, q⟩ := h
      refine ⟨_, pss_cons (ps_if (pt_cmpR op_isN (pv 1) pe_non (nomark _)) pss_never pss_nil)
        (pss_cons (ps_if (pt_val (pe_callB call_isi (by rfl) B.isinstance (by decide +kernel) (pa_cons (pv 1) (pa_cons (pe_bltn (v := .ty "bool") (by rfl) B.bool (by decide +kernel) rfl) pa_nil)))) pss_never pss_nil)
        (pss_cons (ps_if (pt_val (pe_callB call_isi (by rfl) B.isinstance (by decide +kernel) (pa_cons (pv 1) (pa_cons (pe_bltn (v := .ty "int") (by rfl) B.int (by decide +kernel) rfl) pa_nil)))) pss_never pss_nil)
        (pss_cons (ps_if (pt_val (pe_callB call_isi (by rfl) B.isinstance (by decide +kernel) (pa_cons (pv 1) (pa_cons (pe_bltn (v := .ty "str") (by rfl) B.str (by decide +kernel) rfl) pa_nil)))) pss_never pss_nil)
        (pss_cons (ps_if (pt_val (pe_callB call_isi (by rfl) B.isinstance (by decide +kernel) (pa_cons (pv 1) (pa_cons (pe_bltn (v := .ty "dict") (by rfl) B.dict (by decide +kernel) rfl) pa_nil)))) pss_never pss_nil)
        (pss_cons (ps_if (PW.pt (pw_or (pt_cmpR op_ne (pe_callB call_isi (by rfl) B.isinstance (by decide +kernel) (pa_cons (pv 1) (pa_cons (pe_bltn (v := .ty "tuple") (by rfl) B.tuple (by decide +kernel) rfl) pa_nil)))
              (pe_callB call_isi (by rfl) B.isinstance (by decide +kernel) (pa_cons (pv 0) (pa_cons (pe_bltn (v := .ty "tuple") (by rfl) B.tuple (by decide +kernel) rfl) pa_nil))) (nomark _))
            (pw_or1 (pt_cmpR op_ne (pe_callB call_isi (by rfl) B.isinstance (by decide +kernel) (pa_cons (pv 1) (pa_cons (pe_bltn (v := .ty "list") (by rfl) B.list (by decide +kernel) rfl) pa_nil)))
              (pe_callB call_isi (by rfl) B.isinstance (by decide +kernel) (pa_cons (pv 0) (pa_cons (pe_bltn (v := .ty "list") (by rfl) B.list (by decide +kernel) rfl) pa_nil))) (nomark _))))) pss_never pss_nil)
        (pss_cons (ps_if (pt_cmpR op_ne (pe_callB call_len_seq (by rfl) B.len PySem.boot_len (pa_cons (pv 0) pa_nil)) (pe_callB call_len_seq (by rfl) B.len PySem.boot_len (pa_cons (pv 1) pa_nil)) (nomark _)) pss_never pss_nil)
        (pss_one (ps_ret (pe_callB (cr_all rfl) (by rfl) B.all (by decide +kernel) (pa_cons
          (pe_lc (own := [("_law_at", 2)]) (g := gName 2) (tt := tYes) rfl scSame.nd (pi_range1 (by rfl) B.range (pa_cons (pe_callB call_len_seq (by rfl) B.len PySem.boot_len (pa_cons (pv 1) pa_nil)) pa_nil))
            (blkOk_by (own := [("_law_at", 2)]) (N := ["_law_found", "_law_due", "_law_at"]) (sc := defScope sSame) (by decide +kernel)) (fun _ _ _ _ _ => pg_name (i := 2) scSame.nd rfl (Or.inl rfl)) (fun _ _ _ _ _ => pts_nil)
            (fun _ _ _ _ _ => pe_call G hr (by rfl) gS kS bS .nil pass0 (pa_cons (pe_ix (r := rIx K) ix_seq (pv 0) (pv 2) (fun _ _ => rfl)) (pa_cons (pe_ix (r := rIx K) ix_seq (pv 1) (pv 2) (fun _ _ => rfl)) pa_nil)))) pa_nil)))))))))), ?_⟩
      obtain ⟨T, bt, bl, ta, tb, k1, k2, k3, k4, k5, k6⟩ := seq_ty (K := K) hs
      refine ⟨.ref b, rfl, rfl, _, rfl, iteF ?_⟩
      refine ⟨.ref b, rfl, _, _, _, _, false, rfl, .ty "bool", tb, kit_ty k1, _, rfl, iteF ?_⟩
      refine ⟨.ref b, rfl, _, _, _, _, false, rfl, .ty "int", tb, kit_ty k2, _, rfl, iteF ?_⟩
      refine ⟨.ref b, rfl, _, _, _, _, false, rfl, .ty "str", tb, kit_ty k3, _, rfl, iteF ?_⟩
      refine ⟨.ref b, rfl, _, _, _, _, false, rfl, .ty "dict", tb, kit_ty k4, _, rfl, iteF ?_⟩
      refine ⟨.ref b, rfl, _, _, _, _, bt, rfl, .ty "tuple", tb, kit_ty k5, .ref a, rfl, _, _, _, _, bt, rfl, .ty "tuple", ta, kit_ty k5, rfl, _, rfl, ?_⟩
      rw [bl_self]
      refine iteF ?_
      refine ⟨.ref b, rfl, _, _, _, _, bl, rfl, .ty "list", tb, kit_ty k6, .ref a, rfl, _, _, _, _, bl, rfl, .ty "list", ta, kit_ty k6, rfl, _, rfl, ?_⟩
      rw [bl_self]
      refine iteF ?_
      have sA : SqL K H a xs ∨ SqT K H a xs := hs.imp (fun q => SqL.of q.1) (fun q => SqT.of q.1)
      have sB : SqL K H b ys ∨ SqT K H b ys := hs.imp (fun q => SqL.of q.2) (fun q => SqT.of q.2)
      refine ⟨.ref a, rfl, a, xs, rfl, sA, .ref b, rfl, b, ys, rfl, sB, rfl, _, rfl, ?_⟩
      rw [hl, decide_eq_true rfl]
      refine iteF ?_
      refine ⟨.ref b, rfl, b, ys, rfl, sB, (ys.length : Nat), rfl, by omega, by omega, fun D nD => ?_⟩
      refine lc_range (lo := 0) (n := ((ys.length : Nat) : Int).toNat) (fun i H' => Same H H' ∧ H' D = some (.lst ((List.replicate i true).map V.bl))) ⟨same_new nD, upd_same⟩ (fun i H' hi ⟨sm, hD⟩ => ?_) (fun H' ⟨sm, hD⟩ => ?_)
      · have hi' : i < ys.length := by omega
        have hx : xs[i]? = some (xs[i]'(by omega)) := List.getElem?_eq_getElem (by omega)
        have hy : ys[i]? = some ys[i] := List.getElem?_eq_getElem hi'
        have ez : (0 : Int) + (i : Nat) = ((i : Nat) : Int) := by omega
        rw [ez]
        have sA' : rIx K (.ref a) (.int ((i : Nat) : Int)) H' = rIx K (.ref a) (.int ((i : Nat) : Int)) H' := rfl
        have rdA : ∀ Q : VK, Q (xs[i]'(by omega)) H' → rIx K (.ref a) (.int ((i : Nat) : Int)) H' Q := fun Q hQ => by
          rcases hs with ⟨h1, _⟩ | ⟨h1, _⟩
          · exact .inl ⟨a, xs, _, _, rfl, rfl, SqL.of (sm _ _ h1), atI_nat hx, hQ⟩
          · exact .inr (.inl ⟨a, xs, _, _, rfl, rfl, SqT.of (sm _ _ h1), atI_nat hx, hQ⟩)
        have rdB : ∀ Q : VK, Q ys[i] H' → rIx K (.ref b) (.int ((i : Nat) : Int)) H' Q := fun Q hQ => by
          rcases hs with ⟨_, h1⟩ | ⟨_, h1⟩
          · exact .inl ⟨b, ys, _, _, rfl, rfl, SqL.of (sm _ _ h1), atI_nat hy, hQ⟩
          · exact .inr (.inl ⟨b, ys, _, _, rfl, rfl, SqT.of (sm _ _ h1), atI_nat hy, hQ⟩)
        refine ⟨rfl, yes (iteT ?_)⟩
        refine ⟨.ref a, rfl, .int ((i : Nat) : Int), rfl, rdA _ ⟨.ref b, rfl, .int ((i : Nat) : Int), rfl, rdB _ ?_⟩⟩
        refine ⟨_, _, rfl, (hE i _ _ hx hy).same sm, fun H2 s2 => ⟨_, s2 _ _ hD, ?_, ?_, ?_⟩⟩
        · rw [List.length_map, List.length_replicate]
          exact small1000 (by omega)
        · exact fun c o e => by
            have nc : c ≠ D := fun z => by rw [z, nD] at e; cases e
            rw [upd_ne nc]
            exact s2 _ _ (sm _ _ e)
        · rw [upd_same, List.replicate_succ', List.map_append]
          rfl
      · refine ⟨D, _, rfl, SqL.of hD, ?_⟩
        have e : (List.replicate ((ys.length : Nat) : Int).toNat true).all id = true := by
          rw [List.all_eq_true]
          intro x hx
          exact (List.eq_of_mem_replicate hx)
        rw [e]
        exact q _ sm
  have leaf : FnOk P w K mg base CX0 (d + 2) f fd ["_law_found", "_law_due"] (spSame 0) := ok_same_leaf F B
  exact fnEither key leaf fun vs H Q E ⟨x, y, ev, h, q⟩ => by
    rcases h with h | ⟨a, b, xs, ys, rfl, rfl, hs, hl, hz, hE⟩
    · exact .inr ⟨x, y, ev, h, q⟩
    · exact .inl ⟨a, b, xs, ys, ev, hs, hl, hz, hE, q⟩
theorem ok_same {f : Addr} {fd : FuncData} (F : Fun K "_law_same" "_law_same" sSame f fd) (B : Bl mg) (gS : mg "_law_same" = some (.ref f)) (bS : Binds K fd ["_law_found", "_law_due"] []) :
    ∀ d : Nat, FnOk P w K mg base CX0 (d + 1) f fd ["_law_found", "_law_due"] (spSame d)
  | 0 => ok_same_leaf F B
  | d + 1 => ok_same_step F B gS F.kp bS (ok_same F B gS bS d)
end
end HL

namespace HL
open PySem PySem.Spec PyProof.Rows L2
open C8 (pss_cut)
/-! ### rows and lots in the heap -/
def Rows (H : Hp) : List Addr → List (List Int) → Prop
  | [], [] => True
  | a :: as, r :: rs => H a = some (.tup (r.map V.int)) ∧ Rows H as rs
  | _, _ => False
theorem Rows.len {H : Hp} : ∀ {as : List Addr} {ll : List (List Int)}, Rows H as ll → as.length = ll.length
  | [], [], _ => rfl
  | a :: as, r :: rs, h => by rw [List.length_cons, List.length_cons, Rows.len h.2]
  | [], _ :: _, h => h.elim
  | _ :: _, [], h => h.elim
theorem Rows.mono {H H' : Hp} : ∀ {as : List Addr} {ll : List (List Int)}, Rows H as ll → (∀ a xs, H a = some (.tup xs) → H' a = some (.tup xs)) → Rows H' as ll
  | [], [], _, _ => True.intro
  | a :: as, r :: rs, h, k => ⟨k _ _ h.1, Rows.mono h.2 k⟩
  | [], _ :: _, h, _ => h.elim
  | _ :: _, [], h, _ => h.elim
theorem Rows.same {H H' : Hp} {as : List Addr} {ll : List (List Int)} (h : Rows H as ll) (s : Same H H') : Rows H' as ll := h.mono fun a xs e => s _ _ e
theorem Rows.kp {H H' : Hp} {f c : Addr} {as : List Addr} {ll : List (List Int)} (h : Rows H as ll) (F : FeedAt c H f) (k : Kp f H H') : Rows H' as ll := h.mono fun a xs e => k _ _ (F.tup e) e
theorem Rows.app {H : Hp} : ∀ {as bs : List Addr} {ll mm : List (List Int)}, Rows H as ll → Rows H bs mm → Rows H (as ++ bs) (ll ++ mm)
  | [], _, [], _, _, h => h
  | a :: as, bs, r :: rs, mm, h, k => ⟨h.1, Rows.app h.2 k⟩
  | [], _, _ :: _, _, h, _ => h.elim
  | _ :: _, _, [], _, h, _ => h.elim
theorem Rows.take {H : Hp} : ∀ {as : List Addr} {ll : List (List Int)} (n : Nat), Rows H as ll → Rows H (as.take n) (ll.take n)
  | [], [], n, _ => by rw [List.take_nil, List.take_nil]; exact True.intro
  | _ :: _, _ :: _, 0, _ => True.intro
  | a :: as, r :: rs, n + 1, h => ⟨h.1, Rows.take n h.2⟩
  | [], _ :: _, _, h => h.elim
  | _ :: _, [], _, h => h.elim
theorem Rows.drop {H : Hp} : ∀ {as : List Addr} {ll : List (List Int)} (n : Nat), Rows H as ll → Rows H (as.drop n) (ll.drop n)
  | [], [], n, _ => by rw [List.drop_nil, List.drop_nil]; exact True.intro
  | _ :: _, _ :: _, 0, h => h
  | a :: as, r :: rs, n + 1, h => Rows.drop n h.2
  | [], _ :: _, _, h => h.elim
  | _ :: _, [], _, h => h.elim
theorem Rows.at {H : Hp} : ∀ {as : List Addr} {ll : List (List Int)} {i : Nat} {a : Addr}, Rows H as ll → as[i]? = some a → ∃ r, ll[i]? = some r ∧ H a = some (.tup (r.map V.int))
  | [], [], _, _, _, e => by simp at e
  | b :: as, r :: rs, 0, a, h, e => by
    have e' : b = a := Option.some.inj e
    subst e'
    exact ⟨r, rfl, h.1⟩
  | b :: as, r :: rs, i + 1, a, h, e => Rows.at (i := i) h.2 e
  | [], _ :: _, _, _, h, _ => h.elim
  | _ :: _, [], _, _, h, _ => h.elim
/-- a lot in the heap -/
def LotAt (H : Hp) (p : Addr) (ll : List (List Int)) : Prop := ∃ as : List Addr, H p = some (.tup (as.map V.ref)) ∧ Rows H as ll
theorem LotAt.same {H H' : Hp} {p : Addr} {ll : List (List Int)} (h : LotAt H p ll) (s : Same H H') : LotAt H' p ll := by
  obtain ⟨as, h1, h2⟩ := h
  exact ⟨as, s _ _ h1, h2.same s⟩
theorem LotAt.kp {H H' : Hp} {f c p : Addr} {ll : List (List Int)} (h : LotAt H p ll) (F : FeedAt c H f) (k : Kp f H H') : LotAt H' p ll := by
  obtain ⟨as, h1, h2⟩ := h
  exact ⟨as, k _ _ (F.tup h1) h1, h2.kp F k⟩
/-- a kind as it should be, of g amounts to m -/
def GoodRow (g m : Int) (r : List Int) : Prop := r.length = g.toNat ∧ (∀ n ∈ r, 0 ≤ n ∧ n ≤ m) ∧ ∃ n ∈ r, 0 < n
theorem pos_of_sum : ∀ {r : List Int}, (∀ n ∈ r, 0 ≤ n) → r.sum ≠ 0 → ∃ n ∈ r, 0 < n
  | [], _, h => absurd rfl h
  | x :: r, h0, h => by
    by_cases hx : 0 < x
    · exact ⟨x, List.mem_cons_self, hx⟩
    · have e : x = 0 := by
        have := h0 x List.mem_cons_self
        omega
      rw [List.sum_cons, e, Int.zero_add] at h
      obtain ⟨n, hn, hp⟩ := pos_of_sum (fun n hn => h0 n (List.mem_cons_of_mem _ hn)) h
      exact ⟨n, List.mem_cons_of_mem _ hn, hp⟩
/-! ### hold -/
theorem scHold : FnScope ["_law_feed_here", "_law_goods", "_law_most", "_law_hold_here", "_law_good"] ["_law_feed_here", "_law_goods", "_law_most"] (defScope sHold) := ⟨rfl, rfl, rfl, by decide +kernel, rfl, by decide +kernel, by decide +kernel⟩
theorem scLot : FnScope ["_law_feed_here", "_law_goods", "_law_kinds", "_law_most", "_law_kind"] ["_law_feed_here", "_law_goods", "_law_kinds", "_law_most"] (defScope sLot) := ⟨rfl, rfl, rfl, by decide +kernel, rfl, by decide +kernel, by decide +kernel⟩
section
variable {P : Program} {w : World} {K : PySem.W.Frag} {mg : Str → Option Value} {base : Heap}
def spHold : Sp := fun vs H Q _ => ∃ (f c : Addr) (g m : Int), vs = [.ref f, .int g, .int m] ∧ FeedAt c H f ∧ 1 ≤ g ∧ g ≤ 100 ∧ 1 ≤ m ∧ m ≤ 100 ∧
  ∀ H' p ns, Kp f H H' → FeedAt c H' f → H p = none → H' p = some (.tup (ns.map V.int)) → GoodRow g m ns → Q (.ref p) H'
theorem ok_hold {f : Addr} {fd : FuncData} (F : Fun K "_law_hold" "_law_hold" sHold f fd) (B : Bl mg) (CD : Cal P w K mg base CX0 1 "_law_draw" ["_law_feed_here", "_law_many"] spDraw) :
    FnOk P w K mg base CX0 2 f fd ["_law_feed_here", "_law_goods", "_law_most"] spHold := by
  obtain ⟨fD, fdD, GD, gD, kD, bD⟩ := CD.ex
  refine F.ok scHold (fun vs H Q E h => ?_) (fun cdv A outer s H vs Q E hr h => ?_)
  · obtain ⟨a, c, g, m, rfl, _⟩ := h
    rfl
  · obtain ⟨a, c, g, m, rfl, Fd, g1, g2, m1, m2, q⟩ := h
    refine ⟨_, pss_cons (ps_setLc (i := 3) (own := [("_law_good", 4)]) (g := gName 4) (tt := tYes) rfl scHold.nd rfl rfl (sw_true rfl rfl rfl (by decide +kernel)) (pi_range1 (by rfl) B.range (pa_cons (pv 1) pa_nil))
          (blkOk_by (own := [("_law_good", 4)]) (N := ["_law_feed_here", "_law_goods", "_law_most", "_law_hold_here", "_law_good"]) (sc := defScope sHold) (by decide +kernel)) (fun _ _ _ _ _ => pg_name (i := 4) scHold.nd rfl (Or.inl rfl)) (fun _ _ _ _ _ => pts_nil)
          (fun _ _ _ _ _ => pe_ifExp (pt_cmpR op_gt (pe_call GD hr (by rfl) gD kD bD .nil pass0 (pa_cons (pv 0) (pa_cons pe_int pa_nil))) pe_int (nomark _)) (pe_call GD hr (by rfl) gD kD bD .nil pass0 (pa_cons (pv 0) (pa_cons (pe_op op_add (pv 2) pe_int) pa_nil))) pe_int))
      (pss_cut (ps_if (pt_cmpR op_eq (pe_callB (cr_sum rfl) (by rfl) B.sum (by decide +kernel) (pa_cons (pv 3) pa_nil)) pe_int (nomark _))
          (pss_one (ps_asg (pe_op op_add pe_int (pe_call GD hr (by rfl) gD kD bD .nil pass0 (pa_cons (pv 0) (pa_cons (pv 2) pa_nil)))) (pg_sub (pv 3) (pe_call GD hr (by rfl) gD kD bD .nil pass0 (pa_cons (pv 0) (pa_cons (pv 1) pa_nil))) set_list))) pss_nil)
        (pss_one (ps_ret (pe_callTy call_tuple_of (by rfl) B.tuple (by decide +kernel) (pa_cons (pv 3) pa_nil))))), ?_⟩
    refine ⟨.int g, rfl, g, rfl, by omega, by omega, fun D nD => ?_⟩
    have nDf : D ≠ a := Fd.ne nD
    have nDc : D ≠ c := Fd.neC nD
    refine lc_range (lo := 0) (n := g.toNat) (fun i H' => Kp a H H' ∧ FeedAt c H' a ∧ ∃ ns : List Int, H' D = some (.lst (ns.map V.int)) ∧ ns.length = i ∧ ∀ n ∈ ns, 0 ≤ n ∧ n ≤ m)
      ⟨Kp.new nD, Fd.new nD, [], upd_same, rfl, fun n hn => by cases hn⟩ (fun i H' hi ⟨kp, F', ns, hD, hl, hb⟩ => ?_) (fun H' ⟨kp, F', ns, hD, hl, hb⟩ => ?_)
    · refine ⟨rfl, yes (iteT ?_)⟩
      have more : ∀ (H2 : Hp) (d : Int), Kp a H' H2 → FeedAt c H2 a → 0 ≤ d → d ≤ m → ∃ acc, H2 D = some (.lst acc) ∧ acc.length < sizeLine ∧ Kp a H (upd H2 D (.lst (acc ++ [.int d]))) ∧ FeedAt c (upd H2 D (.lst (acc ++ [.int d]))) a ∧
          ∃ ns : List Int, upd H2 D (.lst (acc ++ [.int d])) D = some (.lst (ns.map V.int)) ∧ ns.length = i + 1 ∧ ∀ n ∈ ns, 0 ≤ n ∧ n ≤ m := fun H2 d k2 F2 d0 d1 => by
        have hD2 := k2 _ _ nDf hD
        refine ⟨_, hD2, ?_, ?_, ?_, ns ++ [d], ?_, ?_, ?_⟩
        · rw [List.length_map]
          exact small1000 (by omega)
        · exact (kp.trans k2).late nD
        · exact F2.put nDf nDc
        · rw [upd_same, List.map_append]
          rfl
        · rw [List.length_append, hl]
          rfl
        · intro n hn
          rcases List.mem_append.mp hn with h | h
          · exact hb n h
          · rw [List.mem_singleton.mp h]
            exact ⟨d0, d1⟩
      refine ⟨.ref a, rfl, a, c, 3, rfl, by decide, by decide, F', fun d1 H1 _ _ k1 F1 => ?_⟩
      refine ⟨d1, 0, rfl, rfl, _, rfl, ite2 (fun _ => ?_) (fun _ => ?_)⟩
      · refine ⟨.ref a, rfl, .int m, rfl, m, 1, rfl, rfl, a, c, m + 1, rfl, by omega, by omega, F1, fun d2 H2 e0 e1 k2 F2 => ?_⟩
        exact more H2 d2 (k1.trans k2) F2 e0 (by omega)
      · exact more H1 0 k1 F1 (by decide) (by omega)
    · -- behind the comprehension
      refine ⟨fun σ' H2 => ∃ ns : List Int, σ' = [some (.ref a), some (.int g), some (.int m), some (.ref D), none] ∧ Kp a H H2 ∧ FeedAt c H2 a ∧ H2 D = some (.lst (ns.map V.int)) ∧ GoodRow g m ns, ?_, ?_⟩
      · refine ⟨.ref D, rfl, D, ns, rfl, SqL.of hD, rfl, _, rfl, ite2 (fun cs => ?_) (fun cs => ?_)⟩
        · refine ⟨.ref a, rfl, .int m, rfl, a, c, m, rfl, by omega, by omega, F', fun d1 H1 e0 e1 k1 F1 => ?_⟩
          refine ⟨1, d1, rfl, rfl, .ref D, rfl, .ref a, rfl, .int g, rfl, a, c, g, rfl, by omega, by omega, F1, fun d2 H2 c0 c1 k2 F2 => ?_⟩
          have hD2 : H2 D = some (.lst (ns.map V.int)) := k2 _ _ nDf (k1 _ _ nDf hD)
          have hj : ixN (ns.map V.int).length d2 = some d2.toNat := by
            unfold ixN
            rw [if_pos c0, if_pos (by rw [List.length_map]; omega)]
          refine ⟨D, _, d2, d2.toNat, rfl, rfl, hD2, hj, ns.set d2.toNat (1 + d1), rfl, ?_, ?_, ?_, ?_, ?_, ?_⟩
          · exact (kp.trans (k1.trans k2)).late nD
          · exact F2.put nDf nDc
          · rw [upd_same, List.map_set]
          · rw [List.length_set]
            exact hl
          · intro n hn
            rcases List.mem_or_eq_of_mem_set hn with h | h
            · exact hb n h
            · rw [h]
              omega
          · exact ⟨1 + d1, List.mem_iff_getElem.mpr ⟨d2.toNat, by rw [List.length_set]; omega, by simp⟩, by omega⟩
        · have hs : ns.sum ≠ 0 := fun z => cs (decide_eq_true (by rw [z]))
          exact ⟨ns, rfl, kp, F', hD, hl, hb, pos_of_sum (fun n hn => (hb n hn).1) hs⟩
      · rintro σ' H2 ⟨ms, rfl, k2, F2, hD2, G2⟩
        refine ⟨.ref D, rfl, D, _, rfl, .inl ⟨SqL.of hD2, fun p np => ?_⟩⟩
        exact q _ p ms (k2.trans (Kp.new np)) (F2.new np) (k2.free (F2.ne np) np) upd_same G2
end
end HL

namespace HL
open PySem PySem.Spec PyProof.Rows L2
open C8 (pss_cut)
section
variable {P : Program} {w : World} {K : PySem.W.Frag} {mg : Str → Option Value} {base : Heap}
/-! ### lots -/
/-- a lot as it should be -/
def GoodLot (g m : Int) (n : Nat) (ll : List (List Int)) : Prop := 1 ≤ ll.length ∧ ll.length ≤ n ∧ ∀ r ∈ ll, GoodRow g m r
def spLot : Sp := fun vs H Q _ => ∃ (f c : Addr) (g kk m : Int), vs = [.ref f, .int g, .int kk, .int m] ∧ FeedAt c H f ∧ 1 ≤ g ∧ g ≤ 100 ∧ 1 ≤ kk ∧ kk ≤ 100 ∧ 1 ≤ m ∧ m ≤ 100 ∧
  ∀ H' p ll, Kp f H H' → FeedAt c H' f → H p = none → LotAt H' p ll → GoodLot g m kk.toNat ll → Q (.ref p) H'
theorem ok_lot {f : Addr} {fd : FuncData} (F : Fun K "_law_lot" "_law_lot" sLot f fd) (B : Bl mg) (CD : Cal P w K mg base CX0 1 "_law_draw" ["_law_feed_here", "_law_many"] spDraw)
    (CH : Cal P w K mg base CX0 2 "_law_hold" ["_law_feed_here", "_law_goods", "_law_most"] spHold) : FnOk P w K mg base CX0 3 f fd ["_law_feed_here", "_law_goods", "_law_kinds", "_law_most"] spLot := by
  obtain ⟨fD, fdD, GD, gD, kD, bD⟩ := CD.ex
  obtain ⟨fH, fdH, GH, gH, kH, bH⟩ := CH.ex
  refine F.ok scLot (fun vs H Q E h => ?_) (fun cdv A outer s H vs Q E hr h => ?_)
  · obtain ⟨a, c, g, kk, m, rfl, _⟩ := h
    rfl
  · obtain ⟨a, c, g, kk, m, rfl, Fd, g1, g2, n1, n2, m1, m2, q⟩ := h
    refine ⟨_, pss_one (ps_ret (pe_callTy call_tuple_of (by rfl) B.tuple (by decide +kernel) (pa_cons
      (pe_lc (own := [("_law_kind", 4)]) (g := gName 4) (tt := tYes) rfl scLot.nd (pi_range1 (by rfl) B.range (pa_cons (pe_op op_add pe_int (pe_call GD (hr.mono (by decide)) (by rfl) gD kD bD .nil pass0 (pa_cons (pv 0) (pa_cons (pv 2) pa_nil)))) pa_nil))
        (blkOk_by (own := [("_law_kind", 4)]) (N := ["_law_feed_here", "_law_goods", "_law_kinds", "_law_most", "_law_kind"]) (sc := defScope sLot) (by decide +kernel)) (fun _ _ _ _ _ => pg_name (i := 4) scLot.nd rfl (Or.inl rfl)) (fun _ _ _ _ _ => pts_nil)
        (fun _ _ _ _ _ => pe_call GH hr (by rfl) gH kH bH .nil pass0 (pa_cons (pv 0) (pa_cons (pv 1) (pa_cons (pv 3) pa_nil))))) pa_nil))), ?_⟩
    refine ⟨.ref a, rfl, .int kk, rfl, a, c, kk, rfl, by omega, by omega, Fd, fun d H1 d0 d1 k1 F1 => ?_⟩
    refine ⟨1, d, rfl, rfl, 1 + d, rfl, by omega, by omega, fun D nD => ?_⟩
    have nDf : D ≠ a := F1.ne nD
    have nDc : D ≠ c := F1.neC nD
    have nD0 : H D = none := k1.free nDf nD
    refine lc_range (lo := 0) (n := (1 + d).toNat) (fun i H' => Kp a H H' ∧ FeedAt c H' a ∧ ∃ (as : List Addr) (ll : List (List Int)), H' D = some (.lst (as.map V.ref)) ∧ Rows H' as ll ∧ ll.length = i ∧ ∀ r ∈ ll, GoodRow g m r)
      ⟨k1.late nD0, F1.new nD, [], [], upd_same, True.intro, rfl, fun n hn => by cases hn⟩ (fun i H' hi ⟨kp, F', as, ll, hD, hR, hl, hb⟩ => ?_) (fun H' ⟨kp, F', as, ll, hD, hR, hl, hb⟩ => ?_)
    · refine ⟨rfl, yes (iteT ?_)⟩
      refine ⟨.ref a, rfl, .int g, rfl, .int m, rfl, a, c, g, m, rfl, F', g1, g2, m1, m2, fun H2 p ns k2 F2 np hp gr => ?_⟩
      have hD2 := k2 _ _ nDf hD
      have nt : ∀ b xs, H2 b = some (.tup xs) → upd H2 D (.lst (as.map V.ref ++ [.ref p])) b = some (.tup xs) := fun b xs e => by
        rw [upd_ne (ne_of e hD2 (fun z => by cases z))]
        exact e
      refine ⟨_, hD2, ?_, (kp.trans k2).late nD0, F2.put nDf nDc, as ++ [p], ll ++ [ns], ?_, ?_, ?_, ?_⟩
      · rw [List.length_map, hR.len]
        exact small1000 (by omega)
      · rw [upd_same, List.map_append]
        rfl
      · exact ((hR.kp F' k2).mono nt).app ⟨nt _ _ hp, True.intro⟩
      · rw [List.length_append, hl]
        rfl
      · intro r hr
        rcases List.mem_append.mp hr with h | h
        · exact hb r h
        · rw [List.mem_singleton.mp h]
          exact gr
    · refine ⟨D, _, rfl, .inl ⟨SqL.of hD, fun p np => ?_⟩⟩
      exact q _ p ll (kp.trans (Kp.new np)) (F'.new np) (kp.free (F'.ne np) np) ⟨as, upd_same, hR.same (same_new np)⟩ ⟨by omega, by omega, hb⟩
theorem rep_one (v : V) : ∀ n : Nat, (List.replicate n [v]).flatten = List.replicate n v
  | 0 => rfl
  | n + 1 => by
    rw [List.replicate_succ, List.flatten_cons, rep_one v n, List.replicate_succ]
    rfl
end
end HL

namespace HL
open PySem PySem.Spec PyProof.Rows L2
open C8 (pss_cut)
/-! ### what a lot must be -/
def okRow (g : Nat) (r : List Int) : Bool := decide (r.length = g) && (r.all (fun n => decide (0 ≤ n ∧ n ≤ 6)) && r.any (fun n => decide (0 < n)))
def flawIn (g : Nat) (ll : List (List Int)) : Option Int := (ll.findIdx? fun r => !okRow g r).map fun i => (i : Int)
def width (ll : List (List Int)) : Nat := (ll.headD []).length
def flaw (ll : List (List Int)) : Option Int := if 1 ≤ ll.length ∧ ll.length ≤ 5 ∧ 1 ≤ width ll ∧ width ll ≤ 3 then flawIn (width ll) ll else some (-1)
def flawV (ll : List (List Int)) : V := match flaw ll with
  | none => .non
  | some k => .int k
theorem flawIn_at {g : Nat} {ll : List (List Int)} {i : Nat} {r : List Int} (h : ll[i]? = some r) (hb : okRow g r = false) (ha : ∀ (j : Nat) (r' : List Int), j < i → ll[j]? = some r' → okRow g r' = true) : flawIn g ll = some (i : Int) := by
  unfold flawIn
  obtain ⟨hi, he⟩ := List.getElem?_eq_some_iff.mp h
  have e : ll.findIdx? (fun r => !okRow g r) = some i := by
    refine List.findIdx?_eq_some_iff_getElem.mpr ⟨hi, by rw [he, hb]; rfl, fun j hj => ?_⟩
    rw [ha j ll[j] hj (List.getElem?_eq_getElem (by omega))]
    decide
  rw [e]
  rfl
theorem flawIn_none {g : Nat} {ll : List (List Int)} (ha : ∀ (j : Nat) (r' : List Int), j < ll.length → ll[j]? = some r' → okRow g r' = true) : flawIn g ll = none := by
  unfold flawIn
  have e : ll.findIdx? (fun r => !okRow g r) = none := by
    refine List.findIdx?_eq_none_iff.mpr fun r hr => ?_
    obtain ⟨j, hj, hjr⟩ := List.mem_iff_getElem.mp hr
    rw [ha j r hj (by rw [List.getElem?_eq_getElem hj, hjr])]
    rfl
  rw [e]
  rfl
theorem all_in {r : List Int} : (r.all (fun n => decide (0 ≤ n ∧ n ≤ 6))) = true ↔ ∀ n ∈ r, 0 ≤ n ∧ n ≤ 6 := by
  rw [List.all_eq_true]
  exact ⟨fun h n hn => of_decide_eq_true (h n hn), fun h n hn => decide_eq_true (h n hn)⟩
theorem any_pos {r : List Int} : (r.any (fun n => decide (0 < n))) = true ↔ ∃ n ∈ r, 0 < n := by
  rw [List.any_eq_true]
  exact ⟨fun ⟨n, hn, h⟩ => ⟨n, hn, of_decide_eq_true h⟩, fun ⟨n, hn, h⟩ => ⟨n, hn, decide_eq_true h⟩⟩
theorem okRow_iff {g : Nat} {r : List Int} : okRow g r = true ↔ r.length = g ∧ (∀ n ∈ r, 0 ≤ n ∧ n ≤ 6) ∧ ∃ n ∈ r, 0 < n := by
  unfold okRow
  rw [Bool.and_eq_true, Bool.and_eq_true, decide_eq_true_iff, all_in, any_pos]
theorem sum_pos {r : List Int} (h0 : ∀ n ∈ r, 0 ≤ n) (h : ∃ n ∈ r, 0 < n) : 0 < r.sum := by
  induction r with
  | nil => obtain ⟨n, hn, _⟩ := h; cases hn
  | cons x r ih =>
    rw [List.sum_cons]
    have x0 := h0 x List.mem_cons_self
    have rest : 0 ≤ r.sum := by
      clear ih h
      induction r with
      | nil => exact Int.le_refl _
      | cons y r ih2 =>
        rw [List.sum_cons]
        have := h0 y (List.mem_cons_of_mem _ List.mem_cons_self)
        have := ih2 fun n hn => h0 n (by
          rcases List.mem_cons.mp hn with h | h
          · rw [h]; exact List.mem_cons_self
          · exact List.mem_cons_of_mem _ (List.mem_cons_of_mem _ h))
        omega
    obtain ⟨n, hn, hp⟩ := h
    rcases List.mem_cons.mp hn with h | h
    · omega
    · have := ih (fun n hn => h0 n (List.mem_cons_of_mem _ hn)) ⟨n, h, hp⟩
      omega
/-- 1 <= x <= 5 as a test -/
theorem chainI {i j L : Int} {H : Hp} {Q : Bool → Hp → Prop} (h : Q (decide (i ≤ L ∧ L ≤ j)) H) :
    if decide (i ≤ L) = true then (∃ a b : Int, V.int L = V.int a ∧ V.int j = V.int b ∧ ∃ k, V.bl (decide (a ≤ b)) = V.bl k ∧ Q k H) else ∃ k, V.bl false = V.bl k ∧ Q k H := by
  by_cases c : i ≤ L
  · rw [if_pos (decide_eq_true c)]
    refine ⟨L, j, rfl, rfl, _, rfl, ?_⟩
    rw [show decide (L ≤ j) = decide (i ≤ L ∧ L ≤ j) by simp [c]]
    exact h
  · rw [if_neg (fun z => c (of_decide_eq_true z))]
    refine ⟨false, rfl, ?_⟩
    rw [show false = decide (i ≤ L ∧ L ≤ j) by simp [c]]
    exact h
theorem Rows.head {H : Hp} {as : List Addr} {ll : List (List Int)} (h : Rows H as ll) (hl : 1 ≤ ll.length) : ∃ a, as[0]? = some a ∧ H a = some (.tup ((ll.headD []).map V.int)) ∧ (ll.headD []).length = width ll := by
  cases as with
  | nil =>
    cases ll with
    | nil => simp at hl
    | cons r rs => exact h.elim
  | cons a as =>
    cases ll with
    | nil => simp at hl
    | cons r rs => exact ⟨a, rfl, h.1, rfl⟩
end HL

namespace HL
open PySem PySem.Spec PyProof.Rows L2
open C8 (pss_cut)
/-! ### the refusal -/
abbrev sBadInit : Stmt := inClass (topS 3) 0
theorem scBI : FnScope ["self", "kind"] ["self", "kind"] (defScope sBadInit) := ⟨rfl, rfl, rfl, by decide +kernel, rfl, by decide +kernel, by decide +kernel⟩
/-- what is known of a refusal's class whose __init__ stores a word and a field -/
structure Cls2 (K : PySem.W.Frag) (C : Addr) (f : Str) : Prop where
  ox : OexC K C
  noW : PySem.W.findIn K (.ref C) "word" = some none
  noF : PySem.W.findIn K (.ref C) f = some none
abbrev exF (f wd : Str) (v : V) : List (Str × V) := [(f, v), ("word", .str wd)]
def spInit2 (C : Addr) (f wd : Str) : Sp := fun vs H Q _ => ∃ (a : Addr) (v : V), vs = [.ref a, v] ∧ H a = some (exo a C none) ∧
  ∀ dx, H dx = none → dx ≠ a → Q .non (upd (upd (upd H dx (exd dx [("word", .str wd)])) a (exo a C (some dx))) dx (exd dx (exF f wd v)))
section
variable {P : Program} {w : World} {K : PySem.W.Frag} {mg : Str → Option Value} {base : Heap}
theorem ok_badInit {f : Addr} {fd : FuncData} {k : Nat} {C : Addr} (F : Fun K "__init__" "BadLot.__init__" sBadInit f fd) (T : Cls2 K C "kind") : FnOk P w K mg base CX0 (k + 1) f fd ["self", "kind"] (spInit2 C "kind" "bad lot") := by
  refine F.ok scBI (fun vs H Q E h => ?_) (fun cdv A outer s H vs Q E hr h => ?_)
  · obtain ⟨a, v, rfl, _⟩ := h
    rfl
  · obtain ⟨a, v, rfl, ha, q⟩ := h
    refine ⟨_, pss_cons (ps_ost (pv 0) pe_str) (pss_one (ps_ost (pv 0) (pv 1))), ?_⟩
    refine ⟨.ref a, rfl, a, C, rfl, T.ox, T.noW, .inl ⟨ha, fun dx nd ne => ?_⟩⟩
    refine ⟨v, rfl, .ref a, rfl, a, C, rfl, T.ox, T.noF, .inr ⟨dx, _, upd_same, ?_, (by show 1 ≤ 900; decide), q dx nd ne⟩⟩
    rw [upd_ne ne, upd_same]
/-- the heap behind a refusal that was made -/
theorem xd_same {H : Hp} {a dx : Addr} {o1 o2 o3 o4 o5 : HO} (na : H a = none) (nd : H dx = none) : Same H (upd (del (upd (upd (upd (upd H a o1) dx o2) a o3) dx o4) a) dx o5) := fun b o e => by
  have n1 := ne_of_none e na
  have n2 := ne_of_none e nd
  rw [upd_ne n2, del_ne n1, upd_ne n2, upd_ne n1, upd_ne n2, upd_ne n1]
  exact e
/-- refused with the class at C, field f holding v -/
def Refd (C : Addr) (f wd : Str) (v : V) (H : Hp) (E : XK) : Prop := ∀ H' d, Same H H' → H d = none → H' d = some (.xd (exF f wd v)) → E (.ref C) (some d) H'
theorem Refd.same {C : Addr} {f wd : Str} {v : V} {H H1 : Hp} {E : XK} (h : Refd C f wd v H E) (s : Same H H1) : Refd C f wd v H1 E := fun H' d s' n e => h H' d (s.trans s') (s.free n) e
/-- raise C(v): its reading from what is wanted -/
theorem mk_refd {C : Addr} {f wd : Str} {v : V} {H : Hp} {E : XK} (h : Refd C f wd v H E) : [v].length ≤ 1000 ∧ ∀ a, H a = none → spInit2 C f wd (.ref a :: ([v] ++ [])) (upd H a (exo a C none))
    (fun u H2 => u = .non ∧ ∃ (d : Addr) (fs : List (Str × V)), H2 a = some (exo a C (some d)) ∧ H2 d = some (exd d fs) ∧ H d = none ∧ E (.ref C) (some d) (upd (del H2 a) d (.xd fs))) (fun _ _ _ => False) := by
  refine ⟨(by show 1 ≤ 1000; decide), fun a na => ⟨a, v, rfl, upd_same, fun dx nd ne => ⟨rfl, dx, exF f wd v, ?_, upd_same, ?_, ?_⟩⟩⟩
  · rw [upd_ne (Ne.symm ne), upd_same]
  · rw [upd_ne ne] at nd
    exact nd
  · rw [upd_ne ne] at nd
    exact h _ dx (xd_same na nd) nd upd_same
/-! ### is_hold -/
theorem scIH : FnScope ["hold", "goods", "amount"] ["hold", "goods"] (defScope sIsHold) := ⟨rfl, rfl, rfl, by decide +kernel, rfl, by decide +kernel, by decide +kernel⟩
theorem scLk : FnScope ["lot", "kind", "hold"] ["lot"] (defScope sLook) := ⟨rfl, rfl, rfl, by decide +kernel, rfl, by decide +kernel, by decide +kernel⟩
/-- 0 <= x <= 6 as a value -/
theorem chainV {i j L : Int} {H : Hp} {σ : L2.St} {Q : VK} (h : Q (.bl (decide (i ≤ L ∧ L ≤ j))) H) :
    if decide (i ≤ L) = true then tC (.int j) σ H (fun v H4 => rI0 (fun i j => V.bl (decide (i ≤ j))) (.int L) v H4 Q) else Q (.bl false) H := by
  by_cases c : i ≤ L
  · rw [if_pos (decide_eq_true c)]
    refine ⟨L, j, rfl, rfl, ?_⟩
    show Q (.bl (decide (L ≤ j))) H
    rw [show decide (L ≤ j) = decide (i ≤ L ∧ L ≤ j) by simp [c]]
    exact h
  · rw [if_neg (fun z => c (of_decide_eq_true z))]
    rw [show false = decide (i ≤ L ∧ L ≤ j) by simp [c]]
    exact h
def spIsHold : Sp := fun vs H Q _ => ∃ (a : Addr) (g : Nat) (r : List Int), vs = [.ref a, .int (g : Int)] ∧ H a = some (.tup (r.map V.int)) ∧ r.length ≤ 1000 ∧ 1 ≤ g ∧ ∀ H', Same H H' → Q (.bl (okRow g r)) H'
structure Consts (mg : Str → Option Value) : Prop where
  hold : ∃ t, mg "MOST_HOLD" = some (.int 6 t)
  kinds : ∃ t, mg "MOST_KINDS" = some (.int 5 t)
  goods : ∃ t, mg "MOST_GOODS" = some (.int 3 t)
theorem ok_isHold {f : Addr} {fd : FuncData} {k : Nat} (F : Fun K "is_hold" "is_hold" sIsHold f fd) (B : Bl mg) (M : Consts mg) : FnOk P w K mg base CX0 (k + 1) f fd ["hold", "goods"] spIsHold := by
  obtain ⟨t6, m6⟩ := M.hold
  refine F.ok scIH (fun vs H Q E h => ?_) (fun cdv A outer s H vs Q E hr h => ?_)
  · obtain ⟨a, g, r, rfl, _⟩ := h
    rfl
  · obtain ⟨a, g, r, rfl, ha, hz, g1, q⟩ := h
    refine ⟨_, pss_one (ps_ret (pe_and (pe_cmpR op_eq (pe_callB call_len_seq (by rfl) B.len PySem.boot_len (pa_cons (pv 0) pa_nil)) (pv 1) (nomark _))
      (pe_and (pe_callB (cr_all rfl) (by rfl) B.all (by decide +kernel) (pa_cons (pe_lc (own := [("amount", 2)]) (g := gName 2) (tt := tYes) rfl scIH.nd (pi_tup (pv 0))
          (blkOk_by (own := [("amount", 2)]) (N := ["hold", "goods", "amount"]) (sc := defScope sIsHold) (by decide +kernel)) (fun _ _ _ _ _ => pg_name (i := 2) scIH.nd rfl (Or.inl rfl)) (fun _ _ _ _ _ => pts_nil)
          (fun _ _ _ _ _ => pe_chain op_le op_le pe_int (pv 2) (pe_glob (v := .int 6) rfl m6 ⟨_, rfl⟩))) pa_nil))
        (pe_one (pe_cmpR op_gt (pe_callB (cr_maxT rfl hr.units) (by rfl) B.max (by decide +kernel) (pa_cons (pv 0) pa_nil)) pe_int (nomark _)))))), ?_⟩
    have sA : SqT K H a (r.map V.int) := SqT.of ha
    refine ⟨.ref a, rfl, a, _, rfl, .inr sA, .int (g : Int), rfl, rfl, _, rfl, ?_⟩
    rw [List.length_map]
    refine ite2 (fun c1 => ?_) (fun c1 => ?_)
    · have hl : r.length = g := by
        have := V.int.inj (of_decide_eq_true c1)
        omega
      refine ⟨.ref a, rfl, a, rfl, ⟨_, sA⟩, fun D nD => ?_⟩
      refine lc_tup (K := K) (a := a) (xs := r.map V.int) (fun i H' => Same H H' ∧ H' D = some (.lst (((r.take i).map fun n => decide (0 ≤ n ∧ n ≤ 6)).map V.bl))) ⟨same_new nD, upd_same⟩ (fun i H' _ ⟨sm, _⟩ => SqT.of (sm _ _ ha)) (fun i x H' hx ⟨sm, hD⟩ => ?_) (fun H' ⟨sm, hD⟩ => ?_)
      · obtain ⟨n, hn, rfl⟩ : ∃ n, r[i]? = some n ∧ x = V.int n := by
          rw [List.getElem?_map] at hx
          cases e : r[i]? with
          | none => rw [e] at hx; cases hx
          | some n => rw [e] at hx; exact ⟨n, rfl, (Option.some.inj hx).symm⟩
        refine ⟨rfl, yes (iteT ?_)⟩
        refine ⟨.int n, rfl, 0, n, rfl, rfl, _, rfl, chainV ?_⟩
        refine ⟨_, hD, ?_, same_late sm nD, ?_⟩
        · rw [List.length_map, List.length_map]
          exact small1000 (Nat.le_trans (List.length_take_le' _ _) hz)
        · rw [upd_same, List.take_add_one, hn, List.map_append, List.map_append]
          rfl
      · rw [List.length_map, List.take_length] at hD
        refine ⟨D, _, rfl, SqL.of hD, _, rfl, ?_⟩
        have eall : ((r.map fun n => decide (0 ≤ n ∧ n ≤ 6)).all id) = r.all (fun n => decide (0 ≤ n ∧ n ≤ 6)) := by
          rw [List.all_map]
          rfl
        rw [eall]
        refine ite2 (fun c2 => ?_) (fun c2 => ?_)
        · refine ⟨.ref a, rfl, a, r, rfl, SqT.of (sm _ _ ha), by omega, fun mx hmx hmax => ?_⟩
          refine ⟨mx, 0, rfl, rfl, ?_⟩
          have e : decide ((0 : Int) < mx) = okRow g r := by
            unfold okRow
            rw [decide_eq_true hl, c2, Bool.true_and, Bool.true_and]
            by_cases z : 0 < mx
            · rw [decide_eq_true z, any_pos.mpr ⟨mx, hmx, z⟩]
            · rw [decide_eq_false z]
              cases y : r.any (fun n => decide (0 < n)) with
              | false => rfl
              | true =>
                obtain ⟨n, hn, h0⟩ := any_pos.mp y
                have := hmax n hn
                omega
          have q1 := q H' sm
          rw [← e] at q1
          exact q1
        · have e : okRow g r = false := by
            unfold okRow
            rw [Bool.eq_false_iff.mpr c2, Bool.false_and, Bool.and_false]
          have q1 := q H' sm
          rw [e] at q1
          exact q1
    · have e : okRow g r = false := by
        unfold okRow
        rw [decide_eq_false (fun z => c1 (decide_eq_true (by rw [z]))), Bool.false_and]
      have q1 := q H (Same.refl _)
      rw [e] at q1
      exact q1
/-! ### look_lot -/
def spLook (C : Addr) : Sp := fun vs H Q E => ∃ (p : Addr) (ll : List (List Int)), vs = [.ref p] ∧ LotAt H p ll ∧ ll.length ≤ 100 ∧ (∀ r ∈ ll, r.length ≤ 100) ∧
  (flaw ll = none → ∀ H', Same H H' → Q .non H') ∧ ∀ k, flaw ll = some k → Refd C "kind" "bad lot" (.int k) H E
/-- BadLot as it stands: its class, its __init__ -/
structure BadTxt (P : Program) (w : World) (K : PySem.W.Frag) (mg : Str → Option Value) (base : Heap) (x : Str) (C : Addr) (f wd : Str) : Prop where
  c2 : Cls2 K C f
  gC : mg x = some (.ref C)
  ini : ∃ (fI : Addr) (fd : FuncData), PySem.W.findIn K (.ref C) "__init__" = some (some (.ref fI)) ∧ PySem.W.typeIn K (.ref fI) = some (.type "function") ∧
    FnOk P w K mg base CX0 1 fI fd ["self", f] (spInit2 C f wd) ∧ Binds K fd ["self", f] []
theorem ok_look {f : Addr} {fd : FuncData} {C : Addr} (F : Fun K "look_lot" "look_lot" sLook f fd) (B : Bl mg) (M : Consts mg) (T : BadTxt P w K mg base "BadLot" C "kind" "bad lot") (CH : Cal P w K mg base CX0 1 "is_hold" ["hold", "goods"] spIsHold) :
    FnOk P w K mg base (L2.CX P w) 3 f fd ["lot"] (spLook C) := by
  obtain ⟨t5, m5⟩ := M.kinds
  obtain ⟨t3, m3⟩ := M.goods
  obtain ⟨fH, fdH, GH, gH, kH, bH⟩ := CH.ex
  obtain ⟨fI, fdI, iC, tI, GI, bI⟩ := T.ini
  refine F.okX scLk (fun vs H Q E h => ?_) (fun cdv A outer s H vs Q E hr h => ?_)
  · obtain ⟨p, ll, rfl, _⟩ := h
    rfl
  · obtain ⟨p, ll, rfl, ⟨as, hp, hR⟩, hz, hz2, q0, q1⟩ := h
    have hlen := hR.len
    refine ⟨_, pss_cons (ps_if (PW.pt (pw_or (pt_not (pt_chain op_le op_le pe_int (pe_callB call_len_seq (by rfl) B.len PySem.boot_len (pa_cons (pv 0) pa_nil)) (pe_glob (v := .int 5) rfl m5 ⟨_, rfl⟩)))
          (pw_or1 (pt_not (pt_chain op_le op_le pe_int (pe_callB call_len_seq (by rfl) B.len PySem.boot_len (pa_cons (pe_ix ix_tup (pv 0) pe_int (fun _ _ => rfl)) pa_nil)) (pe_glob (v := .int 3) rfl m3 ⟨_, rfl⟩))))))
          (pss_one (ps_raise rfl (takes_of rfl rfl rfl rfl) (pmk_oex T.c2.ox iC tI GI hr bI .nil pass0 (by rfl) T.gC (pa_cons (pe_un un_neg pe_int) pa_nil)))) pss_nil)
      (pss_one (ps_for (passes_of rfl) rfl (pi_enumT (by rfl) B.enumerate (pa_cons (pv 0) pa_nil)) (pg_tup rfl (pgs_cons (pg_name (i := 1) scLk.nd rfl (.inl rfl)) (pgs_cons (pg_name (i := 2) scLk.nd rfl (.inl rfl)) pgs_nil)))
        (pss_one (ps_if (pt_not (pt_val (pe_call GH (hr.mono (by decide)) (by rfl) gH kH bH .nil pass0 (pa_cons (pv 2) (pa_cons (pe_callB call_len_seq (by rfl) B.len PySem.boot_len (pa_cons (pe_ix ix_tup (pv 0) pe_int (fun _ _ => rfl)) pa_nil)) pa_nil)))))
          (pss_one (ps_raise rfl (takes_of rfl rfl rfl rfl) (pmk_oex T.c2.ox iC tI GI hr bI .nil pass0 (by rfl) T.gC (pa_cons (pv 1) pa_nil)))) pss_nil)))), ?_⟩
    have sP : SqT K H p (as.map V.ref) := SqT.of hp
    refine ⟨.ref p, rfl, p, _, rfl, .inr sP, 1, _, rfl, rfl, _, rfl, chainI ?_⟩
    rw [List.length_map, hlen]
    refine ite2 (fun c1 => iteT ?_) (fun c1 => ?_)
    · have e : flaw ll = some (-1) := by
        unfold flaw
        rw [if_neg (fun z => ?_)]
        simp at c1
        omega
      exact ⟨1, rfl, mk_refd (q1 _ e)⟩
    · have c1' : 1 ≤ ll.length ∧ ll.length ≤ 5 := by
        simp at c1
        omega
      obtain ⟨a0, ha0, hh0, hw⟩ := hR.head c1'.1
      have at0 : atI (as.map V.ref) 0 = some (.ref a0) := atI_nat (j := 0) (by rw [List.getElem?_map, ha0]; rfl)
      refine ⟨.ref p, rfl, p, _, 0, .ref a0, rfl, rfl, sP, at0, a0, _, rfl, .inr (SqT.of hh0), 1, _, rfl, rfl, _, rfl, chainI ?_⟩
      rw [List.length_map, hw]
      refine ite2 (fun c2 => ?_) (fun c2 => ?_)
      · have e : flaw ll = some (-1) := by
          unfold flaw
          rw [if_neg (fun z => ?_)]
          simp at c2
          omega
        exact ⟨1, rfl, mk_refd (q1 _ e)⟩
      · have c2' : 1 ≤ width ll ∧ width ll ≤ 3 := by
          simp at c2
          omega
        have eF : flaw ll = flawIn (width ll) ll := by
          unfold flaw
          rw [if_pos ⟨c1'.1, c1'.2, c2'.1, c2'.2⟩]
        refine ⟨.ref p, rfl, p, _, rfl, sP, ?_⟩
        refine ⟨fun i m σ H' => i + m = as.length ∧ Same H H' ∧ (∃ y1 y2, σ = [some (.ref p), y1, y2]) ∧ ∀ (j : Nat) (r' : List Int), j < i → ll[j]? = some r' → okRow (width ll) r' = true,
          ⟨as.length, by omega, Same.refl _, ⟨none, none, rfl⟩, fun j r' hj => absurd hj (Nat.not_lt_zero j)⟩, fun i m σ H' hW => ?_⟩
        obtain ⟨em, sm, ⟨y1, y2, rfl⟩, ih⟩ := hW
        have sP' : SqT K H' p (as.map V.ref) := SqT.of (sm _ _ hp)
        by_cases hi : i < as.length
        · have hai : as[i]? = some as[i] := List.getElem?_eq_getElem hi
          obtain ⟨r, hr1, hr2⟩ := hR.at hai
          have g1 : (as.map V.ref)[i]? = some (.ref as[i]) := by rw [List.getElem?_map, hai]; rfl
          refine .inr ⟨⟨_, _, sP', g1⟩, fun σ' H2 => Same H H2 ∧ (∃ y1 y2, σ' = [some (.ref p), y1, y2]) ∧ okRow (width ll) r = true, fun σ' H2 hN => ?_, fun x H2 hy => ?_⟩
          · obtain ⟨s2, hσ, hk⟩ := hN
            refine ⟨m - 1, by omega, by omega, s2, hσ, fun j r' hj hjr => ?_⟩
            by_cases hji : j < i
            · exact ih j r' hji hjr
            · have e : j = i := by omega
              subst e
              rw [hr1] at hjr
              cases hjr
              exact hk
          · obtain ⟨T2, x2, rfl, nT, rfl, f2⟩ := hy
            have ex2 : x2 = .ref as[i] := Option.some.inj ((f2 _ sP').symm.trans g1)
            subst ex2
            have s3 : Same H (upd H' T2 (.tup [.int (i : Nat), .ref as[i]])) := sm.trans (same_new nT)
            refine ⟨T2, _, rfl, SqT.of upd_same, rfl, _, _, rfl, _, _, rfl, rfl, ?_⟩
            refine ⟨.ref as[i], rfl, .ref p, rfl, p, _, 0, .ref a0, rfl, rfl, SqT.of (s3 _ _ hp), at0, a0, _, rfl, .inr (SqT.of (s3 _ _ hh0)), as[i], width ll, r, ?_, s3 _ _ hr2, Nat.le_trans (hz2 r (List.mem_of_getElem? hr1)) (by decide), c2'.1, fun H4 s4 => ⟨_, rfl, ?_⟩⟩
            · rw [List.length_map, hw]
              rfl
            · refine ite2 (fun d1 => ?_) (fun d1 => ?_)
              · have hb : okRow (width ll) r = false := by
                  cases e : okRow (width ll) r with
                  | false => rfl
                  | true => rw [e] at d1; cases d1
                refine ⟨_, rfl, mk_refd ?_⟩
                exact (q1 _ (eF.trans (flawIn_at hr1 hb ih))).same (s3.trans s4)
              · refine ⟨s3.trans s4, ⟨_, _, rfl⟩, ?_⟩
                cases e : okRow (width ll) r with
                | true => rfl
                | false => rw [e] at d1; exact absurd rfl d1
        · refine .inl ⟨⟨_, sP', ?_⟩, ?_⟩
          · rw [List.length_map]
            omega
          · exact q0 (eF.trans (flawIn_none fun j r' hj => ih j r' (by omega))) H' sm
theorem flaw_ok {ll : List (List Int)} (h : flaw ll = none) : 1 ≤ ll.length ∧ ll.length ≤ 5 ∧ 1 ≤ width ll ∧ width ll ≤ 3 := by
  unfold flaw at h
  by_cases c : 1 ≤ ll.length ∧ ll.length ≤ 5 ∧ 1 ≤ width ll ∧ width ll ≤ 3
  · exact c
  · rw [if_neg c] at h
    cases h
end
end HL

namespace HL
open PySem PySem.Spec PyProof.Rows L2
open C8 (pss_cut)
/-! ### tuples cut and joined -/
theorem sz1000 {n : Nat} (h : n ≤ 1000) : n ≤ sizeLine := Nat.le_of_lt (small1000 h)
theorem cat_read {K : PySem.W.Frag} {H : Hp} {a b : Addr} {xs ys : List V} {Q : VK} (ha : H a = some (.tup xs)) (hb : H b = some (.tup ys)) (hz : xs.length + ys.length ≤ 1000)
    (q : ∀ p H', Same H H' → H' p = some (.tup (xs ++ ys)) → Q (.ref p) H') : rCatA K (.ref a) (.ref b) H Q := by
  refine ⟨a, b, xs, ys, rfl, rfl, SqT.of ha, SqT.of hb, sz1000 hz, fun e => ?_, fun _ e => ?_, fun _ _ p np => q p _ (same_new np) upd_same⟩
  · subst e
    exact q b H (Same.refl _) hb
  · subst e
    exact q a H (Same.refl _) (by rw [List.append_nil]; exact ha)
theorem slice_read {K : PySem.W.Frag} {H : Hp} {a : Addr} {xs : List V} {lo hi : Option Int} {Q : VK} (ha : H a = some (.tup xs)) (q : ∀ p H', Same H H' → H' p = some (.tup (cutV xs lo hi)) → Q (.ref p) H') : rSlA K (.ref a) lo hi H Q := by
  refine ⟨a, xs, rfl, SqT.of ha, fun e => ?_, fun _ p np => q p _ (same_new np) upd_same⟩
  refine q a H (Same.refl _) ?_
  unfold cutV
  rw [e.1, e.2, List.drop_zero, Nat.sub_zero, List.take_length]
  exact ha
theorem cut_ex (L : Nat) (lo hi : Option Int) : ∃ n m : Nat, ∀ {α : Type} (f : α → V) (l : List α), l.length = L → cutV (l.map f) lo hi = ((l.drop n).take m).map f :=
  ⟨HT.sIx L 0 lo, HT.sIx L L hi - HT.sIx L 0 lo, fun f l h => by
    unfold cutV
    rw [List.length_map, h, List.map_take, List.map_drop]⟩
/-- a tuple of ints, a tuple of rows -/
def IntsAt (H : Hp) (p : Addr) (ns : List Int) : Prop := H p = some (.tup (ns.map V.int))
def RowsAt (H : Hp) (p : Addr) (as : List Addr) (ll : List (List Int)) : Prop := H p = some (.tup (as.map V.ref)) ∧ Rows H as ll
theorem IntsAt.same {H H' : Hp} {p : Addr} {ns : List Int} (h : IntsAt H p ns) (s : Same H H') : IntsAt H' p ns := s _ _ h
theorem RowsAt.same {H H' : Hp} {p : Addr} {as : List Addr} {ll : List (List Int)} (h : RowsAt H p as ll) (s : Same H H') : RowsAt H' p as ll := ⟨s _ _ h.1, h.2.same s⟩
theorem RowsAt.kp {H H' : Hp} {f c p : Addr} {as : List Addr} {ll : List (List Int)} (h : RowsAt H p as ll) (F : FeedAt c H f) (k : Kp f H H') : RowsAt H' p as ll := ⟨k _ _ (F.tup h.1) h.1, h.2.kp F k⟩
theorem RowsAt.lot {H : Hp} {p : Addr} {as : List Addr} {ll : List (List Int)} (h : RowsAt H p as ll) : LotAt H p ll := ⟨as, h.1, h.2⟩
theorem IntsAt.kp {H H' : Hp} {f c p : Addr} {ns : List Int} (h : IntsAt H p ns) (F : FeedAt c H f) (k : Kp f H H') : IntsAt H' p ns := k _ _ (F.tup h) h
theorem cat_ints {K : PySem.W.Frag} {H : Hp} {a b : Addr} {xs ys : List Int} {Q : VK} (ha : IntsAt H a xs) (hb : IntsAt H b ys) (hz : xs.length + ys.length ≤ 1000)
    (q : ∀ p H', Same H H' → IntsAt H' p (xs ++ ys) → Q (.ref p) H') : rCatA K (.ref a) (.ref b) H Q :=
  cat_read ha hb (by rw [List.length_map, List.length_map]; exact hz) fun p H' s h => q p H' s (by unfold IntsAt; rw [List.map_append]; exact h)
theorem cat_rows {K : PySem.W.Frag} {H : Hp} {a b : Addr} {as bs : List Addr} {ll mm : List (List Int)} {Q : VK} (ha : RowsAt H a as ll) (hb : RowsAt H b bs mm) (hz : ll.length + mm.length ≤ 1000)
    (q : ∀ p H', Same H H' → RowsAt H' p (as ++ bs) (ll ++ mm) → Q (.ref p) H') : rCatA K (.ref a) (.ref b) H Q :=
  cat_read ha.1 hb.1 (by rw [List.length_map, List.length_map, ha.2.len, hb.2.len]; exact hz) fun p H' s h => q p H' s ⟨by rw [List.map_append]; exact h, (ha.2.same s).app (hb.2.same s)⟩
theorem slice_ints {K : PySem.W.Frag} {H : Hp} {a : Addr} {xs : List Int} {lo hi : Option Int} {Q : VK} (ha : IntsAt H a xs) (q : ∀ p H' n m, Same H H' → IntsAt H' p ((xs.drop n).take m) → Q (.ref p) H') : rSlA K (.ref a) lo hi H Q := by
  obtain ⟨n, m, e⟩ := cut_ex xs.length lo hi
  exact slice_read ha fun p H' s h => q p H' n m s (by unfold IntsAt; rw [← e V.int xs rfl]; exact h)
theorem slice_rows {K : PySem.W.Frag} {H : Hp} {a : Addr} {as : List Addr} {ll : List (List Int)} {lo hi : Option Int} {Q : VK} (ha : RowsAt H a as ll)
    (q : ∀ p H' n m, Same H H' → RowsAt H' p ((as.drop n).take m) ((ll.drop n).take m) → Q (.ref p) H') : rSlA K (.ref a) lo hi H Q := by
  obtain ⟨n, m, e⟩ := cut_ex as.length lo hi
  exact slice_read ha.1 fun p H' s h => q p H' n m s ⟨by rw [← e V.ref as rfl]; exact h, ((ha.2.same s).drop n).take m⟩
theorem len_cut {α : Type} (l : List α) (n m : Nat) : ((l.drop n).take m).length ≤ l.length := by
  rw [List.length_take, List.length_drop]
  omega
theorem mem_cut {α : Type} {l : List α} {n m : Nat} {x : α} (h : x ∈ (l.drop n).take m) : x ∈ l := List.mem_of_mem_drop (List.mem_of_mem_take h)
theorem one_row {H : Hp} {t r : Addr} {row : List Int} (h : IntsAt H r row) (nt : H t = none) : RowsAt (upd H t (.tup [.ref r])) t [r] [row] := ⟨upd_same, ⟨(same_new nt) _ _ h, True.intro⟩⟩
theorem sz_1 (v : V) : [v].length ≤ sizeLine := by
  show 1 ≤ sizeLine
  decide
theorem noPart {σ : L2.St} {H : Hp} {Q : Option Int → Hp → Prop} (h : Q none H) : tNoPart σ H Q := h
end HL

set_option pp.maxSteps 3000
namespace HL
open PySem PySem.Spec PyProof.Rows L2
open C8 (pss_cut)
abbrev sBillInit : Stmt := inClass (topS 4) 0
abbrev sWishInit : Stmt := inClass (topS 5) 0
theorem scBB : FnScope ["self", "good"] ["self", "good"] (defScope sBillInit) := ⟨rfl, rfl, rfl, by decide +kernel, rfl, by decide +kernel, by decide +kernel⟩
theorem scWI : FnScope ["self"] ["self"] (defScope sWishInit) := ⟨rfl, rfl, rfl, by decide +kernel, rfl, by decide +kernel, by decide +kernel⟩
abbrev G30 : Int := 1000000000000000000000000000000
def IT (K : PySem.W.Frag) (H : Hp) (a : Addr) (ns : List Int) : Prop := SqT K H a (ns.map V.int)
theorem sqT_same {K : PySem.W.Frag} {H H' : Hp} {a : Addr} {xs : List V} (h : SqT K H a xs) (s : Same H H') : SqT K H' a xs := by
  rcases h with (h | ⟨o, h⟩) | h
  · exact .inl (.inl (s _ _ h))
  · exact .inl (.inr ⟨o, s _ _ h⟩)
  · exact .inr h
theorem IT.same {K : PySem.W.Frag} {H H' : Hp} {a : Addr} {ns : List Int} (h : IT K H a ns) (s : Same H H') : IT K H' a ns := sqT_same h s
theorem IntsAt.it {K : PySem.W.Frag} {H : Hp} {a : Addr} {ns : List Int} (h : IntsAt H a ns) : IT K H a ns := SqT.of h
/-! ### where a row is wrong -/
def inB (n : Int) : Bool := decide (0 ≤ n ∧ n < G30)
def wrong (m : Int) (row : List Int) : Option Int := if (row.length : Int) = m then (row.findIdx? fun n => !inB n).map fun i => (i : Int) else some (-1)
def wrongV (m : Int) (row : List Int) : V := match wrong m row with
  | none => .non
  | some k => .int k
theorem wrong_at {m : Int} {row : List Int} {i : Nat} {n : Int} (hl : (row.length : Int) = m) (h : row[i]? = some n) (hb : inB n = false) (ha : ∀ (j : Nat) (z : Int), j < i → row[j]? = some z → inB z = true) : wrong m row = some (i : Int) := by
  unfold wrong
  rw [if_pos hl]
  obtain ⟨hi, he⟩ := List.getElem?_eq_some_iff.mp h
  have e : row.findIdx? (fun n => !inB n) = some i := by
    refine List.findIdx?_eq_some_iff_getElem.mpr ⟨hi, by rw [he, hb]; rfl, fun j hj => ?_⟩
    rw [ha j row[j] hj (List.getElem?_eq_getElem (by omega))]
    decide
  rw [e]
  rfl
theorem wrong_none {m : Int} {row : List Int} (hl : (row.length : Int) = m) (ha : ∀ (j : Nat) (z : Int), j < row.length → row[j]? = some z → inB z = true) : wrong m row = none := by
  unfold wrong
  rw [if_pos hl]
  have e : row.findIdx? (fun n => !inB n) = none := by
    refine List.findIdx?_eq_none_iff.mpr fun r hr => ?_
    obtain ⟨j, hj, hjr⟩ := List.mem_iff_getElem.mp hr
    rw [ha j r hj (by rw [List.getElem?_eq_getElem hj, hjr])]
    rfl
  rw [e]
  rfl
theorem wrong_len {m : Int} {row : List Int} (hl : ¬ (row.length : Int) = m) : wrong m row = some (-1) := by
  unfold wrong
  rw [if_neg hl]
theorem wrong_ok {m : Int} {row : List Int} (h : wrong m row = none) : (row.length : Int) = m ∧ ∀ n ∈ row, 0 ≤ n ∧ n < G30 := by
  unfold wrong at h
  by_cases c : (row.length : Int) = m
  · rw [if_pos c] at h
    refine ⟨c, fun n hn => ?_⟩
    have e : row.findIdx? (fun n => !inB n) = none := by
      cases z : row.findIdx? (fun n => !inB n) with
      | none => rfl
      | some i => rw [z] at h; cases h
    have := List.findIdx?_eq_none_iff.mp e n hn
    have b : inB n = true := by
      cases z : inB n with
      | true => rfl
      | false => rw [z] at this; cases this
    exact of_decide_eq_true b
  · rw [if_neg c] at h
    cases h
/-- 0 <= x < y as a test -/
theorem chainL {i j L : Int} {H : Hp} {Q : Bool → Hp → Prop} (h : Q (decide (i ≤ L ∧ L < j)) H) :
    if decide (i ≤ L) = true then (∃ a b : Int, V.int L = V.int a ∧ V.int j = V.int b ∧ ∃ k, V.bl (decide (a < b)) = V.bl k ∧ Q k H) else ∃ k, V.bl false = V.bl k ∧ Q k H := by
  by_cases c : i ≤ L
  · rw [if_pos (decide_eq_true c)]
    refine ⟨L, j, rfl, rfl, _, rfl, ?_⟩
    rw [show decide (L < j) = decide (i ≤ L ∧ L < j) by simp [c]]
    exact h
  · rw [if_neg (fun z => c (of_decide_eq_true z))]
    refine ⟨false, rfl, ?_⟩
    rw [show false = decide (i ≤ L ∧ L < j) by simp [c]]
    exact h
theorem scFirst : FnScope ["row", "many", "place", "number"] ["row", "many"] (defScope sFirst) := ⟨rfl, rfl, rfl, by decide +kernel, rfl, by decide +kernel, by decide +kernel⟩
theorem scLB : FnScope ["lot", "bill", "wrong"] ["lot", "bill"] (defScope sLookBill) := ⟨rfl, rfl, rfl, by decide +kernel, rfl, by decide +kernel, by decide +kernel⟩
section
variable {P : Program} {w : World} {K : PySem.W.Frag} {mg : Str → Option Value} {base : Heap}
theorem ok_billInit {f : Addr} {fd : FuncData} {k : Nat} {C : Addr} (F : Fun K "__init__" "BadBill.__init__" sBillInit f fd) (T : Cls2 K C "good") : FnOk P w K mg base CX0 (k + 1) f fd ["self", "good"] (spInit2 C "good" "bad bill") := by
  refine F.ok scBB (fun vs H Q E h => ?_) (fun cdv A outer s H vs Q E hr h => ?_)
  · obtain ⟨a, v, rfl, _⟩ := h
    rfl
  · obtain ⟨a, v, rfl, ha, q⟩ := h
    refine ⟨_, pss_cons (ps_ost (pv 0) pe_str) (pss_one (ps_ost (pv 0) (pv 1))), ?_⟩
    refine ⟨.ref a, rfl, a, C, rfl, T.ox, T.noW, .inl ⟨ha, fun dx nd ne => ?_⟩⟩
    refine ⟨v, rfl, .ref a, rfl, a, C, rfl, T.ox, T.noF, .inr ⟨dx, _, upd_same, ?_, (by show 1 ≤ 900; decide), q dx nd ne⟩⟩
    rw [upd_ne ne, upd_same]
def spFirst (K : PySem.W.Frag) : Sp := fun vs H Q _ => ∃ (a : Addr) (m : Int) (row : List Int), vs = [.ref a, .int m] ∧ IT K H a row ∧ row.length ≤ 100 ∧ ∀ H', Same H H' → Q (wrongV m row) H'
theorem ok_first {f : Addr} {fd : FuncData} {k : Nat} (F : Fun K "first_wrong" "first_wrong" sFirst f fd) (B : Bl mg) (mG : ∃ t, mg "GREAT" = some (.int G30 t)) : FnOk P w K mg base CX0 (k + 1) f fd ["row", "many"] (spFirst K) := by
  obtain ⟨tG, mG⟩ := mG
  refine F.ok scFirst (fun vs H Q E h => ?_) (fun cdv A outer s H vs Q E hr h => ?_)
  · obtain ⟨a, m, row, rfl, _⟩ := h
    rfl
  · obtain ⟨a, m, row, rfl, hA, hz, q⟩ := h
    refine ⟨_, pss_cons (ps_if (pt_cmpR op_ne (pe_callB call_len_seq (by rfl) B.len PySem.boot_len (pa_cons (pv 0) pa_nil)) (pv 1) (nomark _)) (pss_one (ps_ret (pe_un un_neg pe_int))) pss_nil)
      (pss_cons (ps_for PassesOwn.never rfl (pi_enumT (by rfl) B.enumerate (pa_cons (pv 0) pa_nil)) (pg_tup rfl (pgs_cons (pg_name (i := 2) scFirst.nd rfl (.inl rfl)) (pgs_cons (pg_name (i := 3) scFirst.nd rfl (.inl rfl)) pgs_nil)))
        (pss_one (ps_if (pt_not (pt_chain op_le op_lt pe_int (pv 3) (pe_glob (v := .int G30) rfl mG ⟨_, rfl⟩))) (pss_one (ps_ret (pv 2))) pss_nil)))
      (pss_one (ps_ret pe_non))), ?_⟩
    refine ⟨.ref a, rfl, a, _, rfl, .inr hA, .int m, rfl, rfl, _, rfl, ?_⟩
    rw [List.length_map]
    refine ite2 (fun c1 => ?_) (fun c1 => ?_)
    · have hl : ¬ (row.length : Int) = m := fun z => by rw [z, decide_eq_true rfl] at c1; cases c1
      have q1 := q H (Same.refl _)
      unfold wrongV at q1
      rw [wrong_len hl] at q1
      exact ⟨1, rfl, q1⟩
    · have hl : (row.length : Int) = m := by
        by_cases z : (row.length : Int) = m
        · exact z
        · refine absurd ?_ c1
          rw [decide_eq_false (fun y => z (V.int.inj y))]
          rfl
      refine ⟨.ref a, rfl, a, _, rfl, hA, ?_⟩
      refine ⟨fun i mm σ H' => i + mm = row.length ∧ Same H H' ∧ (∃ y2 y3, σ = [some (.ref a), some (.int m), y2, y3]) ∧ ∀ (j : Nat) (z : Int), j < i → row[j]? = some z → inB z = true,
        ⟨row.length, by omega, Same.refl _, ⟨none, none, rfl⟩, fun j r' hj => absurd hj (Nat.not_lt_zero j)⟩, fun i mm σ H' hW => ?_⟩
      obtain ⟨em, sm, ⟨y2, y3, rfl⟩, ih⟩ := hW
      have sA : SqT K H' a (row.map V.int) := sqT_same hA sm
      by_cases hi : i < row.length
      · have hri : row[i]? = some row[i] := List.getElem?_eq_getElem hi
        have g1 : (row.map V.int)[i]? = some (.int row[i]) := by rw [List.getElem?_map, hri]; rfl
        refine .inr ⟨⟨_, _, sA, g1⟩, fun σ' H2 => Same H H2 ∧ (∃ y2 y3, σ' = [some (.ref a), some (.int m), y2, y3]) ∧ inB row[i] = true, fun σ' H2 hN => ?_, fun x H2 hy => ?_⟩
        · obtain ⟨s2, hσ, hk⟩ := hN
          refine ⟨mm - 1, by omega, by omega, s2, hσ, fun j z hj hjr => ?_⟩
          by_cases hji : j < i
          · exact ih j z hji hjr
          · have e : j = i := by omega
            subst e
            rw [hri] at hjr
            cases hjr
            exact hk
        · obtain ⟨T2, x2, rfl, nT, rfl, f2⟩ := hy
          have ex2 : x2 = .int row[i] := Option.some.inj ((f2 _ sA).symm.trans g1)
          subst ex2
          have s3 : Same H (upd H' T2 (.tup [.int (i : Nat), .int row[i]])) := sm.trans (same_new nT)
          refine ⟨T2, _, rfl, SqT.of upd_same, rfl, _, _, rfl, _, _, rfl, rfl, ?_⟩
          refine ⟨.int row[i], rfl, 0, row[i], rfl, rfl, _, rfl, chainL ?_⟩
          refine ite2 (fun d1 => ?_) (fun d1 => ?_)
          · have hb : inB row[i] = false := by
              unfold inB
              cases e : decide (0 ≤ row[i] ∧ row[i] < G30) with
              | false => rfl
              | true => rw [e] at d1; cases d1
            have q1 := q _ s3
            unfold wrongV at q1
            rw [wrong_at hl hri hb ih] at q1
            exact ⟨_, rfl, q1⟩
          · refine ⟨s3, ⟨_, _, rfl⟩, ?_⟩
            unfold inB
            cases e : decide (0 ≤ row[i] ∧ row[i] < G30) with
            | true => rfl
            | false => rw [e] at d1; exact absurd rfl d1
      · refine .inl ⟨⟨_, sA, ?_⟩, ?_⟩
        · rw [List.length_map]
          omega
        · have q1 := q H' sm
          unfold wrongV at q1
          rw [wrong_none hl (fun j z hj => ih j z (by omega))] at q1
          exact q1
def LotB (H : Hp) (p : Addr) (as : List Addr) (ll : List (List Int)) : Prop := RowsAt H p as ll ∧ ll.length ≤ 100 ∧ ∀ r ∈ ll, r.length ≤ 100
theorem LotB.same {H H' : Hp} {p : Addr} {as : List Addr} {ll : List (List Int)} (h : LotB H p as ll) (s : Same H H') : LotB H' p as ll := ⟨h.1.same s, h.2⟩
theorem wrongV_non {m : Int} {row : List Int} : wrongV m row = .non ↔ wrong m row = none := by
  unfold wrongV
  cases wrong m row with
  | none => exact ⟨fun _ => rfl, fun _ => rfl⟩
  | some k => exact ⟨fun z => (by cases z), fun z => (by cases z)⟩
theorem wrongV_some {m : Int} {row : List Int} (h : ¬ wrongV m row = .non) : ∃ k, wrong m row = some k ∧ wrongV m row = .int k := by
  cases e : wrong m row with
  | none => exact absurd (wrongV_non.mpr e) h
  | some k => exact ⟨k, rfl, by unfold wrongV; rw [e]⟩
theorem scGo : FnScope ["lot"] ["lot"] (defScope sGoods) := ⟨rfl, rfl, rfl, by decide +kernel, rfl, by decide +kernel, by decide +kernel⟩
def spGoods (C : Addr) : Sp := fun vs H Q E => ∃ (p : Addr) (ll : List (List Int)), vs = [.ref p] ∧ LotAt H p ll ∧ ll.length ≤ 100 ∧ (∀ r ∈ ll, r.length ≤ 100) ∧
  (flaw ll = none → ∀ H', Same H H' → Q (.int (width ll)) H') ∧ ∀ k, flaw ll = some k → Refd C "kind" "bad lot" (.int k) H E
theorem ok_goods {f : Addr} {fd : FuncData} {C : Addr} (F : Fun K "goods_of" "goods_of" sGoods f fd) (B : Bl mg) (CL : Cal P w K mg base (L2.CX P w) 3 "look_lot" ["lot"] (spLook C)) :
    FnOk P w K mg base (L2.CX P w) 4 f fd ["lot"] (spGoods C) := by
  obtain ⟨fL, fdL, GL, gL, kL, bL⟩ := CL.ex
  refine F.okX scGo (fun vs H Q E h => ?_) (fun cdv A outer s H vs Q E hr h => ?_)
  · obtain ⟨p, ll, rfl, _⟩ := h
    rfl
  · obtain ⟨p, ll, rfl, ⟨as, hp, hR⟩, hz, hz2, q0, q1⟩ := h
    refine ⟨_, pss_cons (ps_expr (pe_call GL hr (by rfl) gL kL bL .nil (passes_call (takes_of rfl rfl rfl rfl) (fun _ _ _ _ h => h)) (pa_cons (pv 0) pa_nil)))
      (pss_one (ps_ret (pe_callB call_len_seq (by rfl) B.len PySem.boot_len (pa_cons (pe_ix ix_tup (pv 0) pe_int (fun _ _ => rfl)) pa_nil)))), ?_⟩
    refine ⟨.ref p, rfl, p, ll, rfl, ⟨as, hp, hR⟩, hz, hz2, fun e H' sm => ?_, q1⟩
    obtain ⟨a0, ha0, hh0, hw⟩ := hR.head (flaw_ok e).1
    have at0 : atI (as.map V.ref) 0 = some (.ref a0) := atI_nat (j := 0) (by rw [List.getElem?_map, ha0]; rfl)
    refine ⟨.ref p, rfl, p, _, 0, .ref a0, rfl, rfl, SqT.of (sm _ _ hp), at0, a0, _, rfl, .inr (SqT.of (sm _ _ hh0)), ?_⟩
    have q2 := q0 e H' sm
    rw [← hw] at q2
    rw [List.length_map]
    exact q2
def spLookBill (K : PySem.W.Frag) (C CB : Addr) : Sp := fun vs H Q E => ∃ (p b : Addr) (as : List Addr) (ll : List (List Int)) (row : List Int), vs = [.ref p, .ref b] ∧ LotB H p as ll ∧ IT K H b row ∧ row.length ≤ 100 ∧
  (∀ k, flaw ll = some k → Refd C "kind" "bad lot" (.int k) H E) ∧ (flaw ll = none → ∀ k, wrong (width ll) row = some k → Refd CB "good" "bad bill" (.int k) H E) ∧ (flaw ll = none → wrong (width ll) row = none → ∀ H', Same H H' → Q .non H')
theorem ok_lookBill {f : Addr} {fd : FuncData} {C CB : Addr} (F : Fun K "look_bill" "look_bill" sLookBill f fd) (T : BadTxt P w K mg base "BadBill" CB "good" "bad bill") (CF : Cal P w K mg base CX0 1 "first_wrong" ["row", "many"] (spFirst K))
    (CG : Cal P w K mg base (L2.CX P w) 4 "goods_of" ["lot"] (spGoods C)) : FnOk P w K mg base (L2.CX P w) 5 f fd ["lot", "bill"] (spLookBill K C CB) := by
  obtain ⟨fF, fdF, GF, gF, kF, bF⟩ := CF.ex
  obtain ⟨fG, fdG, GG, gG, kG, bG⟩ := CG.ex
  obtain ⟨fI, fdI, iC, tI, GI, bI⟩ := T.ini
  refine F.okX scLB (fun vs H Q E h => ?_) (fun cdv A outer s H vs Q E hr h => ?_)
  · obtain ⟨p, b, as, ll, row, rfl, _⟩ := h
    rfl
  · obtain ⟨p, b, as, ll, row, rfl, hL, hB, hz, q1, q2, q3⟩ := h
    refine ⟨_, pss_cons (ps_set (i := 2) scLB.nd rfl (.inl rfl) (pe_call GF (hr.mono (by decide)) (by rfl) gF kF bF .nil pass0 (pa_cons (pv 1) (pa_cons (pe_call GG hr (by rfl) gG kG bG .nil (passes_call (takes_of rfl rfl rfl rfl) (fun _ _ _ _ h => h)) (pa_cons (pv 0) pa_nil)) pa_nil))))
      (pss_one (ps_if (pt_cmpR op_notN (pv 2) pe_non (nomark _)) (pss_one (ps_raise rfl (takes_of rfl rfl rfl rfl) (pmk_oex T.c2.ox iC tI GI (hr.mono (by decide)) bI .nil pass0 (by rfl) T.gC (pa_cons (pv 2) pa_nil)))) pss_nil)), ?_⟩
    refine ⟨.ref b, rfl, .ref p, rfl, p, ll, rfl, hL.1.lot, hL.2.1, hL.2.2, fun ef H1 s1 => ?_, q1⟩
    refine ⟨b, width ll, row, rfl, hB.same s1, hz, fun H2 s2 => ?_⟩
    refine ⟨_, rfl, rfl, _, rfl, ite2 (fun c => ?_) (fun c => ?_)⟩
    · have hn : ¬ wrongV (width ll) row = .non := fun z => by rw [z, decide_eq_true rfl] at c; cases c
      obtain ⟨k, ek, ev⟩ := wrongV_some hn
      refine ⟨_, rfl, ?_⟩
      rw [ev]
      exact mk_refd ((q2 ef k ek).same (s1.trans s2))
    · have hn : wrongV (width ll) row = .non := by
        by_cases z : wrongV (width ll) row = .non
        · exact z
        · rw [decide_eq_false z] at c
          exact absurd rfl c
      exact q3 ef (wrongV_non.mp hn) H2 (s1.trans s2)
end
abbrev veT : List Value := [.type "ValueError", .type "Exception", .type "BaseException", .type "object"]
structure Cls1 (K : PySem.W.Frag) (C : Addr) : Prop where
  ox : OexB K C "ValueError.__new__" veT
  noW : PySem.W.findIn K (.ref C) "word" = some none
def spInit1 (C : Addr) (wd : Str) : Sp := fun vs H Q _ => ∃ a : Addr, vs = [.ref a] ∧ H a = some (exo a C none) ∧ ∀ dx, H dx = none → dx ≠ a → Q .non (upd (upd H dx (exd dx [("word", .str wd)])) a (exo a C (some dx)))
section
variable {P : Program} {w : World} {K : PySem.W.Frag} {mg : Str → Option Value} {base : Heap}
theorem ok_wishInit {f : Addr} {fd : FuncData} {k : Nat} {C : Addr} (F : Fun K "__init__" "BadWish.__init__" sWishInit f fd) (T : Cls1 K C) : FnOk P w K mg base CX0 (k + 1) f fd ["self"] (spInit1 C "bad wish") := by
  refine F.ok scWI (fun vs H Q E h => ?_) (fun cdv A outer s H vs Q E hr h => ?_)
  · obtain ⟨a, rfl, _⟩ := h
    rfl
  · obtain ⟨a, rfl, ha, q⟩ := h
    refine ⟨_, pss_one (ps_ostB (nid := "ValueError.__new__") (bmB := veT) (pv 0) pe_str), ?_⟩
    exact ⟨.ref a, rfl, a, C, rfl, T.ox, T.noW, .inl ⟨ha, fun dx nd ne => q dx nd ne⟩⟩
structure BadTxt1 (P : Program) (w : World) (K : PySem.W.Frag) (mg : Str → Option Value) (base : Heap) (x : Str) (C : Addr) (wd : Str) : Prop where
  c1 : Cls1 K C
  gC : mg x = some (.ref C)
  ini : ∃ (fI : Addr) (fd : FuncData), PySem.W.findIn K (.ref C) "__init__" = some (some (.ref fI)) ∧ PySem.W.typeIn K (.ref fI) = some (.type "function") ∧
    FnOk P w K mg base CX0 1 fI fd ["self"] (spInit1 C wd) ∧ Binds K fd ["self"] []
theorem dp_ints {H : Hp} : ∀ ns : List Int, DpAll K H (ns.map V.int) (ns.map PyData.int)
  | [] => .nil
  | n :: ns => .cons (.int n) (dp_ints ns)
end
/-- refused with the class at C, its word wd -/
def RefW (C : Addr) (wd : Str) (H : Hp) (E : XK) : Prop := ∀ H' d fs, Same H H' → H' d = some (.xd fs) → fs.lookup (Str.ofString "word") = some (V.str wd) → E (.ref C) (some d) H'
theorem RefW.same {C : Addr} {wd : Str} {H H1 : Hp} {E : XK} (h : RefW C wd H E) (s : Same H H1) : RefW C wd H1 E := fun H' d fs s' e l => h H' d fs (s.trans s') e l
theorem RefW.refd {C : Addr} {f wd : Str} {v : V} {H : Hp} {E : XK} (h : RefW C wd H E) (hf : (("word" : Str) == f) = false) : Refd C f wd v H E := fun H' d s nd e => h H' d _ s e (by
  show List.lookup (Str.ofString "word") [(f, v), (Str.ofString "word", V.str wd)] = _
  rw [List.lookup_cons, hf]
  exact List.lookup_cons_self)
theorem mk_ref1 {C : Addr} {wd : Str} {H : Hp} {E : XK} (h : RefW C wd H E) : ([] : List V).length ≤ 1000 ∧ ∀ a, H a = none → spInit1 C wd [.ref a] (upd H a (exo a C none))
    (fun u H2 => u = .non ∧ ∃ (d : Addr) (fs : List (Str × V)), H2 a = some (exo a C (some d)) ∧ H2 d = some (exd d fs) ∧ H d = none ∧ E (.ref C) (some d) (upd (del H2 a) d (.xd fs))) (fun _ _ _ => False) := by
  refine ⟨Nat.zero_le _, fun a na => ⟨a, rfl, upd_same, fun dx nd ne => ⟨rfl, dx, [("word", .str wd)], upd_same, ?_, ?_, ?_⟩⟩⟩
  · rw [upd_ne ne, upd_same]
  · rw [upd_ne ne] at nd
    exact nd
  · rw [upd_ne ne] at nd
    refine h _ dx _ (fun b o e => ?_) upd_same ?_
    · have n1 := ne_of_none e na
      have n2 := ne_of_none e nd
      rw [upd_ne n2, del_ne n1, upd_ne n1, upd_ne n2, upd_ne n1]
      exact e
    · exact List.lookup_cons_self
/-! ### slices just so -/
theorem cut_to {xs : List V} {n : Nat} : cutV xs none (some (n : Int)) = xs.take n := by
  unfold cutV
  rw [HT.sIx_none, HT.sIx_nat, List.drop_zero, Nat.sub_zero]
  by_cases h : n ≤ xs.length
  · rw [Nat.min_eq_left h]
  · rw [Nat.min_eq_right (by omega), List.take_length, List.take_of_length_le (by omega)]
theorem cut_from {xs : List V} {n : Nat} : cutV xs (some (n : Int)) none = xs.drop n := by
  unfold cutV
  rw [HT.sIx_none, HT.sIx_nat]
  by_cases h : n ≤ xs.length
  · rw [Nat.min_eq_left h]
    exact List.take_of_length_le (by rw [List.length_drop]; omega)
  · rw [Nat.min_eq_right (by omega), List.drop_eq_nil_of_le (by omega), List.drop_eq_nil_of_le (by omega), List.take_nil]
theorem slice_to {K : PySem.W.Frag} {H : Hp} {a : Addr} {as : List Addr} {ll : List (List Int)} {n : Nat} {Q : VK} (ha : RowsAt H a as ll) (q : ∀ p H', Same H H' → RowsAt H' p (as.take n) (ll.take n) → Q (.ref p) H') : rSlA K (.ref a) none (some (n : Int)) H Q :=
  slice_read ha.1 fun p H' s h => q p H' s ⟨by rw [cut_to, ← List.map_take] at h; exact h, (ha.2.same s).take n⟩
theorem slice_from {K : PySem.W.Frag} {H : Hp} {a : Addr} {as : List Addr} {ll : List (List Int)} {n : Nat} {Q : VK} (ha : RowsAt H a as ll) (q : ∀ p H', Same H H' → RowsAt H' p (as.drop n) (ll.drop n) → Q (.ref p) H') : rSlA K (.ref a) (some (n : Int)) none H Q :=
  slice_read ha.1 fun p H' s h => q p H' s ⟨by rw [cut_from, ← List.map_drop] at h; exact h, (ha.2.same s).drop n⟩
theorem flaw_rows {ll : List (List Int)} (h : flaw ll = none) : ∀ r ∈ ll, r.length = width ll ∧ ∀ n ∈ r, 0 ≤ n ∧ n ≤ 6 := by
  have h0 := flaw_ok h
  unfold flaw at h
  rw [if_pos ⟨h0.1, h0.2.1, h0.2.2.1, h0.2.2.2⟩] at h
  unfold flawIn at h
  have e : ll.findIdx? (fun r => !okRow (width ll) r) = none := by
    cases z : ll.findIdx? (fun r => !okRow (width ll) r) with
    | none => rfl
    | some i => rw [z] at h; cases h
  intro r hr
  have := List.findIdx?_eq_none_iff.mp e r hr
  have b : okRow (width ll) r = true := by
    cases z : okRow (width ll) r with
    | true => rfl
    | false => rw [z] at this; cases this
  obtain ⟨o1, o2, _⟩ := okRow_iff.mp b
  exact ⟨o1, o2⟩
theorem nilA {σ : L2.St} {H : Hp} {Q : List V → Hp → Prop} (h : Q [] H) : tNil σ H Q := h
theorem shaped_tup (ns : List Int) : SeqAt.shaped (.tuple (ns.map PyData.int)) = true := by
  simp [SeqAt.shaped, PyData.canLay0, PyData.depth, PySem.W.ke_canLayAll0, PySem.W.ke_depthAll]
theorem eqv_nil (ns : List Int) : PyData.eqv (.tuple (ns.map PyData.int)) (.tuple []) = decide (ns = []) := by
  cases ns with
  | nil => simp [PyData.eqv, PyData.eqvAll]
  | cons n ns => simp [PyData.eqv, PyData.eqvAll]
theorem getD_at {r : List Int} {g : Nat} (h : g < r.length) : r[g]? = some (r.getD g 0) := by
  rw [List.getElem?_eq_getElem h, List.getD_eq_getElem?_getD, List.getElem?_eq_getElem h]
  rfl
theorem cut_last {xs : List V} : cutV xs none (some (-1)) = xs.dropLast := by
  unfold cutV
  rw [HT.sIx_none, List.drop_zero, Nat.sub_zero, List.dropLast_eq_take]
  congr 1
  show (if (-1 : Int) < 0 then ((-1 : Int) + (xs.length : Int)).toNat else min (-1 : Int).toNat xs.length) = xs.length - 1
  rw [if_pos (by decide)]
  omega
theorem slice_lastI {K : PySem.W.Frag} {H : Hp} {a : Addr} {xs : List Int} {Q : VK} (ha : IntsAt H a xs) (q : ∀ p H', Same H H' → IntsAt H' p xs.dropLast → Q (.ref p) H') : rSlA K (.ref a) none (some (-1)) H Q :=
  slice_read ha fun p H' s h => q p H' s (by unfold IntsAt; rw [cut_last, ← List.map_dropLast] at h; exact h)
theorem slice_fromI {K : PySem.W.Frag} {H : Hp} {a : Addr} {xs : List Int} {n : Nat} {Q : VK} (ha : IntsAt H a xs) (q : ∀ p H', Same H H' → IntsAt H' p (xs.drop n) → Q (.ref p) H') : rSlA K (.ref a) (some (n : Int)) none H Q :=
  slice_read ha fun p H' s h => q p H' s (by unfold IntsAt; rw [cut_from, ← List.map_drop] at h; exact h)
end HL

namespace HL
open PySem PySem.Spec PyProof.Rows L2
open C8 (pss_cut)
open RZ (pi_zipA ItzT iZipA)
/-! ### rows beside one another -/
def coversB (xs ys : List Int) : Bool := ((xs.zip ys).map fun q => decide (q.1 ≥ q.2)).all id
def dotI (xs ys : List Int) : Int := ((xs.zip ys).map fun q => q.1 * q.2).sum
def okWish (n : Nat) (ws : List Int) : Bool := decide (ws = []) || (decide (ws.length = n) && ws.all fun z => decide (-99 ≤ z ∧ z ≤ 99))
def numI (n : Nat) (ws : List Int) : List Int := if ws = [] then List.replicate n 1 else ws
theorem zipI_at {xs ys : List Int} {i : Nat} {x y : Int} (h1 : xs[i]? = some x) (h2 : ys[i]? = some y) : (xs.zip ys)[i]? = some (x, y) := by
  rw [List.getElem?_zip_eq_some]
  exact ⟨h1, h2⟩
theorem numI_len {n : Nat} {ws : List Int} (h : okWish n ws = true) : (numI n ws).length = n := by
  unfold numI
  by_cases c : ws = []
  · rw [if_pos c, List.length_replicate]
  · rw [if_neg c]
    unfold okWish at h
    rw [decide_eq_false c, Bool.false_or, Bool.and_eq_true] at h
    exact of_decide_eq_true h.1
theorem numI_in {n : Nat} {ws : List Int} (h : okWish n ws = true) : ∀ z ∈ numI n ws, -99 ≤ z ∧ z ≤ 99 := fun z hz => by
  unfold numI at hz
  by_cases c : ws = []
  · rw [if_pos c] at hz
    rw [List.eq_of_mem_replicate hz]
    decide
  · rw [if_neg c] at hz
    unfold okWish at h
    rw [decide_eq_false c, Bool.false_or, Bool.and_eq_true, List.all_eq_true] at h
    exact of_decide_eq_true (h.2 z hz)
theorem rep1_read {K : PySem.W.Frag} {H : Hp} {t : Addr} {n : Nat} {c : Int} {Q : VK} (ht : H t = some (.tup [.int c])) (n1 : 1 ≤ n) (n2 : n ≤ 1000) (q : ∀ p H', Same H H' → IntsAt H' p (List.replicate n c) → Q (.ref p) H') : rRepA K (.ref t) (.int (n : Nat)) H Q := by
  refine ⟨t, (n : Nat), [.int c], rfl, rfl, SqT.of ht, by simp, by omega, by omega, (by show 1 ≤ 1000; decide), fun e => ?_, fun e p np => ?_⟩
  · have : n = 1 := by omega
    subst this
    exact q t H (Same.refl _) ht
  · refine q p _ (same_new np) ?_
    unfold IntsAt
    rw [upd_same, rep_one, Int.toNat_natCast, List.map_replicate]
theorem scCo : FnScope ["row", "other", "number", "asked"] ["row", "other"] (defScope sCovers) := ⟨rfl, rfl, rfl, by decide +kernel, rfl, by decide +kernel, by decide +kernel⟩
theorem scLW : FnScope ["lot", "wish", "number"] ["lot", "wish"] (defScope sLookWish) := ⟨rfl, rfl, rfl, by decide +kernel, rfl, by decide +kernel, by decide +kernel⟩
theorem scNu : FnScope ["lot", "wish"] ["lot", "wish"] (defScope sNumbers) := ⟨rfl, rfl, rfl, by decide +kernel, rfl, by decide +kernel, by decide +kernel⟩
section
variable {P : Program} {w : World} {K : PySem.W.Frag} {mg : Str → Option Value} {base : Heap}
def spCovers (K : PySem.W.Frag) : Sp := fun vs H Q _ => ∃ (a b : Addr) (xs ys : List Int), vs = [.ref a, .ref b] ∧ IT K H a xs ∧ IT K H b ys ∧ xs.length = ys.length ∧ xs.length ≤ 100 ∧ ∀ H', Same H H' → Q (.bl (coversB xs ys)) H'
theorem ok_covers {f : Addr} {fd : FuncData} {k : Nat} (F : Fun K "covers" "covers" sCovers f fd) (B : Bl mg) (mz : mg "zip" = none) : FnOk P w K mg base CX0 (k + 1) f fd ["row", "other"] (spCovers K) := by
  refine F.ok scCo (fun vs H Q E h => ?_) (fun cdv A outer s H vs Q E hr h => ?_)
  · obtain ⟨a, b, xs, ys, rfl, _⟩ := h
    rfl
  · obtain ⟨a, b, xs, ys, rfl, hA, hB, hl, hz, q⟩ := h
    refine ⟨_, pss_one (ps_ret (pe_callB (cr_all rfl) (by rfl) B.all (by decide +kernel) (pa_cons (pe_lc (own := [("number", 2), ("asked", 3)]) (g := gTup K 2 (gCons (gName 2) (gCons (gName 3) gNil))) (tt := tYes) rfl scCo.nd (pi_zipA (by rfl) mz (pa_cons (pv 0) (pa_cons (pv 1) pa_nil)))
        (blkOk_by (own := [("number", 2), ("asked", 3)]) (N := ["row", "other", "number", "asked"]) (sc := defScope sCovers) (by decide +kernel)) (fun _ _ _ _ _ => pg_tup rfl (pgs_cons (pg_name (i := 2) scCo.nd rfl (Or.inl rfl)) (pgs_cons (pg_name (i := 3) scCo.nd rfl (Or.inl rfl)) pgs_nil))) (fun _ _ _ _ _ => pts_nil)
        (fun _ _ _ _ _ => pe_cmpR op_ge (pv 2) (pv 3) (nomark _))) pa_nil))), ?_⟩
    refine ⟨.ref a, rfl, .ref b, rfl, a, b, _, _, rfl, .inr ⟨hA, hB, fun D nD => ?_⟩⟩
    refine ⟨fun i m H' => i + m = xs.length ∧ Same H H' ∧ H' D = some (.lst ((((xs.zip ys).take i).map fun q => decide (q.1 ≥ q.2)).map V.bl)), ⟨xs.length, by omega, same_new nD, upd_same⟩, fun i m H' hW => ?_⟩
    obtain ⟨em, sm, hD⟩ := hW
    have sA : SqT K H' a (xs.map V.int) := sqT_same hA sm
    have sB : SqT K H' b (ys.map V.int) := sqT_same hB sm
    by_cases hi : i < xs.length
    · have hx : xs[i]? = some (xs[i]'hi) := List.getElem?_eq_getElem hi
      have hy : ys[i]? = some (ys[i]'(by omega)) := List.getElem?_eq_getElem (by omega)
      have g1 : (xs.map V.int)[i]? = some (.int (xs[i]'hi)) := by rw [List.getElem?_map, hx]; rfl
      have g2 : (ys.map V.int)[i]? = some (.int (ys[i]'(by omega))) := by rw [List.getElem?_map, hy]; rfl
      refine .inr ⟨⟨_, _, _, _, sA, sB, g1, g2⟩, fun H2 => Same H H2 ∧ H2 D = some (.lst ((((xs.zip ys).take (i + 1)).map fun q => decide (q.1 ≥ q.2)).map V.bl)), fun H2 hN => ⟨m - 1, by omega, by omega, hN⟩, fun x H2 hyy => ?_⟩
      obtain ⟨T, x1, x2, rfl, nT, rfl, f1, f2⟩ := hyy
      have ex1 := Option.some.inj ((f1 _ sA).symm.trans g1)
      have ex2 := Option.some.inj ((f2 _ sB).symm.trans g2)
      subst ex1 ex2
      have sT := same_new (o := .tup [V.int (xs[i]'hi), V.int (ys[i]'(by omega))]) nT
      refine ⟨T, _, rfl, SqT.of upd_same, rfl, _, _, rfl, _, _, rfl, rfl, rfl, yes (iteT ?_)⟩
      refine ⟨_, rfl, _, rfl, _, _, rfl, rfl, _, sT _ _ hD, ?_, same_late (sm.trans sT) nD, ?_⟩
      · rw [List.length_map, List.length_map]
        exact small1000 (Nat.le_trans (List.length_take_le _ _) (by omega))
      · rw [upd_same, List.take_add_one, zipI_at hx hy, List.map_append, List.map_append]
        rfl
    · refine .inl ⟨⟨_, _, sA, sB, .inl ?_⟩, ?_⟩
      · rw [List.length_map]
        omega
      · have e : (xs.zip ys).take i = xs.zip ys := List.take_of_length_le (by rw [List.length_zip]; omega)
        rw [e] at hD
        exact ⟨D, _, rfl, SqL.of hD, q H' sm⟩
/-! ### look_wish, numbers_of -/
def spLookWish (K : PySem.W.Frag) (CW : Addr) : Sp := fun vs H Q E => ∃ (p v : Addr) (as : List Addr) (ll : List (List Int)) (ws : List Int), vs = [.ref p, .ref v] ∧ RowsAt H p as ll ∧ ll.length ≤ 100 ∧ IT K H v ws ∧ ws.length ≤ 100 ∧
  (okWish ll.length ws = true → ∀ H', Same H H' → Q .non H') ∧ (okWish ll.length ws = false → RefW CW "bad wish" H E)
/-- -99 <= x <= 99 as a value -/
theorem ok_lookWish {f : Addr} {fd : FuncData} {CW : Addr} (F : Fun K "look_wish" "look_wish" sLookWish f fd) (B : Bl mg) (mW : ∃ t, mg "MOST_WISH" = some (.int 99 t)) (TW : BadTxt1 P w K mg base "BadWish" CW "bad wish") : FnOk P w K mg base (L2.CX P w) 3 f fd ["lot", "wish"] (spLookWish K CW) := by
  obtain ⟨t9, m9⟩ := mW
  obtain ⟨fI, fdI, iC, tI, GI, bI⟩ := TW.ini
  refine F.okX scLW (fun vs H Q E h => ?_) (fun cdv A outer s H vs Q E hr h => ?_)
  · obtain ⟨p, v, as, ll, ws, rfl, _⟩ := h
    rfl
  · obtain ⟨p, v, as, ll, ws, rfl, R, hlz, hW, hwz, q1, q2⟩ := h
    refine ⟨_, (pss_cons (ps_if (pt_cmpR (op_eqD hr.units) (pv 1) (pe_tup pa_nil) (nomark _)) (pss_one ps_retN) pss_nil)
      (pss_one (ps_if (PW.pt (pw_or (pt_cmpR op_ne (pe_callB call_len_seq (by rfl) B.len PySem.boot_len (pa_cons (pv 1) pa_nil)) (pe_callB call_len_seq (by rfl) B.len PySem.boot_len (pa_cons (pv 0) pa_nil)) (nomark _)) (pw_or1 (pt_not (pt_val (pe_callB (cr_all rfl) (by rfl) B.all (by decide +kernel) (pa_cons (pe_lc (own := [("number", 2)]) (g := gName 2) (tt := tYes) rfl scLW.nd (pi_tup (pv 1))
        (blkOk_by (own := [("number", 2)]) (N := ["lot", "wish", "number"]) (sc := defScope sLookWish) (by decide +kernel)) (fun _ _ _ _ _ => pg_name (i := 2) scLW.nd rfl (Or.inl rfl)) (fun _ _ _ _ _ => pts_nil)
        (fun _ _ _ _ _ => (pe_chain op_le op_le (pe_un un_neg (pe_glob (v := .int 99) rfl m9 ⟨_, rfl⟩)) (pv 2) (pe_glob (v := .int 99) rfl m9 ⟨_, rfl⟩)))) pa_nil))))))) (pss_one (ps_raise rfl (takes_of rfl rfl rfl rfl) (pmk_oexB0 PySem.F.excBase_ValueError TW.c1.ox iC tI GI hr bI pass0 (by rfl) TW.gC))) pss_nil))), ?_⟩
    refine ⟨.ref v, rfl, Nat.zero_le _, fun t nt => ?_⟩
    have s1 := same_new (o := .tup []) nt
    refine ⟨.tuple (ws.map PyData.int), .tuple [], .tup (hW.same s1) (dp_ints ws), .tup (SqT.of upd_same) .nil, shaped_tup ws, by decide, _, rfl, ?_⟩
    rw [eqv_nil]
    by_cases c0 : ws = []
    · rw [decide_eq_true c0]
      refine iteT (q1 ?_ _ s1)
      unfold okWish
      rw [decide_eq_true c0]
      rfl
    rw [decide_eq_false c0]
    refine iteF ?_
    have hlen := R.2.len
    have bad : ∀ H', Same H H' → okWish ll.length ws = false → RefW CW "bad wish" H' E := fun H' s e => (q2 e).same s
    refine ⟨.ref v, rfl, v, _, rfl, .inr (hW.same s1), .ref p, rfl, p, _, rfl, .inr (SqT.of (R.same s1).1), rfl, _, rfl, ?_⟩
    rw [List.length_map, List.length_map, hlen]
    by_cases c1 : ws.length = ll.length
    · rw [c1, decide_eq_true rfl]
      refine iteF ?_
      refine ⟨.ref v, rfl, v, rfl, ⟨_, hW.same s1⟩, fun D nD => ?_⟩
      refine lc_tup (K := K) (a := v) (xs := ws.map V.int) (fun i H' => Same H H' ∧ H' D = some (.lst (((ws.take i).map fun z => decide (-99 ≤ z ∧ z ≤ 99)).map V.bl))) ⟨s1.trans (same_new nD), upd_same⟩ (fun i H' _ hP => hW.same hP.1) (fun i x H' hx ⟨sm, hD⟩ => ?_) (fun H' ⟨sm, hD⟩ => ?_)
      · obtain ⟨z, hz, rfl⟩ : ∃ n, ws[i]? = some n ∧ x = V.int n := by
          rw [List.getElem?_map] at hx
          cases e : ws[i]? with
          | none => rw [e] at hx; cases hx
          | some n => rw [e] at hx; exact ⟨n, rfl, (Option.some.inj hx).symm⟩
        refine ⟨rfl, yes (iteT ?_)⟩
        refine ⟨99, rfl, .int z, rfl, -99, z, rfl, rfl, _, rfl, chainV ?_⟩
        refine ⟨_, hD, ?_, same_late sm (s1.free nD), ?_⟩
        · rw [List.length_map, List.length_map]
          exact small1000 (Nat.le_trans (List.length_take_le' _ _) (by omega))
        · rw [upd_same, List.take_add_one, hz, List.map_append, List.map_append]
          rfl
      · rw [List.length_map, List.take_length] at hD
        refine ⟨D, _, rfl, SqL.of hD, _, rfl, ?_⟩
        have ea : ((ws.map fun z => decide (-99 ≤ z ∧ z ≤ 99)).all id) = okWish ll.length ws := by
          unfold okWish
          rw [decide_eq_false c0, decide_eq_true c1, List.all_map]
          rfl
        rw [ea]
        cases e : okWish ll.length ws with
        | true => exact iteF (q1 e H' sm)
        | false => exact iteT (mk_ref1 (bad H' sm e))
    · rw [decide_eq_false (fun z => c1 (by have := V.int.inj z; omega))]
      refine iteT (mk_ref1 (bad _ s1 ?_))
      unfold okWish
      rw [decide_eq_false c0, decide_eq_false c1]
      rfl
def spNumbers (K : PySem.W.Frag) : Sp := fun vs H Q _ => ∃ (p v : Addr) (as : List Addr) (ll : List (List Int)) (ws : List Int), vs = [.ref p, .ref v] ∧ RowsAt H p as ll ∧ 1 ≤ ll.length ∧ ll.length ≤ 100 ∧ IT K H v ws ∧
  ∀ H' z, Same H H' → IT K H' z (numI ll.length ws) → Q (.ref z) H'
theorem ok_numbers {f : Addr} {fd : FuncData} {k : Nat} (F : Fun K "numbers_of" "numbers_of" sNumbers f fd) (B : Bl mg) : FnOk P w K mg base CX0 (k + 1) f fd ["lot", "wish"] (spNumbers K) := by
  refine F.ok scNu (fun vs H Q E h => ?_) (fun cdv A outer s H vs Q E hr h => ?_)
  · obtain ⟨p, v, as, ll, ws, rfl, _⟩ := h
    rfl
  · obtain ⟨p, v, as, ll, ws, rfl, R, h1, hlz, hW, q⟩ := h
    refine ⟨_, pss_one (ps_ret (pe_ifExp (pt_cmpR (op_eqD hr.units) (pv 1) (pe_tup pa_nil) (nomark _)) (pe_op op_repA (pe_tup (pa_cons pe_int pa_nil)) (pe_callB call_len_seq (by rfl) B.len PySem.boot_len (pa_cons (pv 0) pa_nil))) (pv 1))), ?_⟩
    refine ⟨.ref v, rfl, Nat.zero_le _, fun t nt => ?_⟩
    have s1 := same_new (o := .tup []) nt
    refine ⟨.tuple (ws.map PyData.int), .tuple [], .tup (hW.same s1) (dp_ints ws), .tup (SqT.of upd_same) .nil, shaped_tup ws, by decide, _, rfl, ?_⟩
    rw [eqv_nil]
    by_cases c0 : ws = []
    · rw [decide_eq_true c0]
      refine iteT ⟨sz_1 _, fun t2 nt2 => ⟨.ref p, rfl, p, _, rfl, .inr (SqT.of ((R.same s1).same (same_new nt2)).1), ?_⟩⟩
      rw [List.length_map, R.2.len]
      refine rep1_read upd_same h1 (by omega) fun z H3 s3 hz => q H3 z (s1.trans ((same_new nt2).trans s3)) ?_
      unfold numI
      rw [if_pos c0]
      exact hz.it
    · rw [decide_eq_false c0]
      refine iteF ⟨.ref v, rfl, q _ v s1 ?_⟩
      unfold numI
      rw [if_neg c0]
      exact hW.same s1
/-! ### fits -/
/-- a load in the heap: its counts, its loose goods -/
def LoadAt (K : PySem.W.Frag) (H : Hp) (a : Addr) (cs ls : List Int) : Prop := ∃ c l : Addr, SqT K H a [.ref c, .ref l] ∧ IT K H c cs ∧ IT K H l ls
theorem LoadAt.same {H H' : Hp} {a : Addr} {cs ls : List Int} (h : LoadAt K H a cs ls) (s : Same H H') : LoadAt K H' a cs ls := by
  obtain ⟨c, l, h1, h2, h3⟩ := h
  exact ⟨c, l, sqT_same h1 s, h2.same s, h3.same s⟩
end
end HL

namespace HL
open PySem PySem.Spec PyProof.Rows L2
open C8 (pss_cut)
open RZ (pi_zipA ItzT iZipA)
open LamX (CodeO Tabs TabS TabB ExtN tLam LamS lamS_by lamCx lamEnv codeO_ne)
/-- f(k = v, ..) -/
theorem pe_kw0 {X : Cx} {CX : CXT} {k : Nat} {f : Addr} {fd : FuncData} {ps ks : List Str} {sp : Sp} {E : XK} {x : Str} {p pos : Pos} {kws : List Keyword} {tk : TA} {g : List Value → List Value → List Value} {gV : List V → List V → List V}
    (F : FnOk X.prog X.w X.K X.mg X.base CX k f fd ps sp) (hr : Room k X.A) (hg : Gl X x) (hm : X.mg x = some (.ref f)) (hk : PySem.W.keepIn X.K (.ref f) = true) (hb : KBn X.K fd ps 0 ks g gV) (hx : Passes CX X E) (hkw : PK X kws tk)
    (hall : (backToKw pos (keywordEach kws X.env)).all (·.1.isSome) = true := by rfl)
    (hks : (backToKw pos (keywordEach kws X.env)).filterMap (·.1) = ks := by rfl) (hdb : (x == ("__debug__" : Str)) = false := by decide)
    (hpl : ((backTo pos (starEach [] X.env)).any (·.1) || (backToKw pos (keywordEach kws X.env)).any (·.1.isNone)) = false := by rfl) : PE X (.Call (.Name x p) [] kws pos) (tCallN 0 ks.length sp gV E tNil tk) := by
  refine ⟨fun pins s σ H Q I h => wpAny_Call_Name_kw (ld_glob I hg hm ?_ hdb)⟩
  refine PySem.W.callWith_KW0 (h₀ := X.base) I.ok.mod.kin hk hall (thn (hkw.run pos pins s σ H _ I h) fun ws s2 ⟨zs, H2, I2, rz, l1, l2, q2⟩ => ⟨I2.kIn, ?_⟩) hpl
  rw [hks]
  exact run_fnN (us := []) (vs := []) F hr hb hx I2 .nil rz rfl l2 q2
theorem FeedAt.ext {c : Addr} {H H' : Hp} {f : Addr} (F : FeedAt c H f) (e : ExtN H H') : FeedAt c H' f := by
  obtain ⟨ns, i, b, m, n, h1, h2, h3⟩ := F
  exact ⟨ns, i, b, m, n, e _ _ h1 (fun ps z => by cases z), e _ _ h2 (fun ps z => by cases z), h3⟩
theorem IntsAt.ext {H H' : Hp} {p : Addr} {ns : List Int} (h : IntsAt H p ns) (e : ExtN H H') : IntsAt H' p ns := e _ _ h (fun ps z => by cases z)
theorem tabs_kp {T : List (Addr × Str)} {H H' : Hp} {f c : Addr} (t : Tabs T H) (F : FeedAt c H f) (k : Kp f H H') : Tabs T H' := fun p hp => by
  obtain ⟨ps, h1, h2, h3⟩ := t p hp
  obtain ⟨ns, i, b, m, n, g1, _⟩ := F
  refine ⟨ps, k _ _ (ne_of h1 g1 (fun z => by cases z)) h1, h2, fun pos cv hc => ?_⟩
  obtain ⟨c0, e1, e2⟩ := h3 pos cv hc
  refine ⟨c0, e1, k _ _ (ne_of e2 g1 (fun z => ?_)) e2⟩
  unfold CodeO at z
  cases z
theorem tabs_list {T : List (Addr × Str)} {H : Hp} {l : Addr} {xs ys : List V} (t : Tabs T H) (h : H l = some (.lst xs)) : Tabs T (upd H l (.lst ys)) := fun p hp => by
  obtain ⟨ps, h1, h2, h3⟩ := t p hp
  refine ⟨ps, by rw [upd_ne (ne_of h1 h (fun z => by cases z))]; exact h1, h2, fun pos cv hc => ?_⟩
  obtain ⟨c0, e1, e2⟩ := h3 pos cv hc
  refine ⟨c0, e1, ?_⟩
  rw [upd_ne (ne_of e2 h (fun z => ?_))]
  · exact e2
  · unfold CodeO at z
    cases z
/-- the slots of a def are as many as its names -/
theorem takes_len {X : Cx} {W : WX} (tk : Takes X W) : Takes X (fun cls d σ H => σ.length = X.N.length → W cls d σ H) := fun u s' ⟨a, B, sI, pins, σ, H, cls, d, e, I, nb, up, sky, na, os, ag, w⟩ =>
  tk u s' ⟨a, B, sI, pins, σ, H, cls, d, e, I, nb, up, sky, na, os, ag, w I.len⟩
theorem eqd_tup {H : Hp} {a b : Addr} {xs : List V} {d : Nat} (ha : H a = some (.tup xs)) (hb : H b = some (.tup xs)) (hz : xs.length ≤ 1000) (hl : ∀ x ∈ xs, leafV x = true) : Eqd H (d + 1) (.ref a) (.ref b) :=
  .inr ⟨a, b, xs, xs, rfl, rfl, .inr ⟨ha, hb⟩, rfl, hz, fun i x y h1 h2 => by
    rw [h1] at h2
    cases h2
    have e := hl x (List.mem_of_getElem? h1)
    cases d with
    | zero => exact ⟨rfl, e⟩
    | succ d => exact .inl ⟨rfl, e⟩⟩
theorem sz_2 (v w : V) : [v, w].length ≤ sizeLine := by
  show 2 ≤ sizeLine
  decide
/-! ### an ask, told by its word -/
abbrev NW : List Str := ["_law_ask", "_law_word_here", "_law_answer", "e"]
theorem scWord : FnScope NW ["_law_ask"] (defScope sWord) := ⟨rfl, rfl, rfl, by decide +kernel, rfl, by decide +kernel, by decide +kernel⟩
/-- a class that an ask may end with; l: whether it is of Missing's family, else of LotError's -/
structure FamW (K : PySem.W.Frag) (CE CM : Addr) (C : Addr) (l : Bool) : Prop where
  x : XfC K C
  nW : PySem.W.findIn K (.ref C) "word" = some none
  ce : PySem.W.exmOne K (.ref C) (.ref CE) = some (!l)
  cm : l = true → PySem.W.exmOne K (.ref C) (.ref CM) = some true
structure ClsW (mg : Str → Option Value) (CE CM CN : Addr) : Prop where
  gE : mg "LotError" = some (.ref CE)
  gM : mg "Missing" = some (.ref CM)
  gN : mg "NothingLeft" = some (.ref CN)
def tXfA (K : PySem.W.Frag) (a : Addr) (cls : Value) (d : Option Addr) (n : Str) (te : TE) : TE := fun σ H Q => ∃ C, XfC K C ∧ PySem.W.findIn K (.ref C) n = some none ∧ tXf a cls d C n te σ H Q
theorem pe_xfA {X : Cx} {a : Addr} {oe : Obj} {cls : Value} {d : Option Addr} {pn : List (Addr × Obj)} {e : Expr} {te : TE} {pos : Pos} {n : Str} (hz : Zc cls d oe) (hf : ∃ vs, oe.data = .fields vs) (he : PE (X.suite a ((a, oe) :: pn)) e te)
    (hb : attributeBase e n X.env (eval e X.env) = eval e X.env := by rfl) : PE (X.suite a ((a, oe) :: pn)) (.Attribute e n pos) (tXfA X.K a cls d n te) := ⟨fun pins s σ H Q I ⟨C, T, hno, h⟩ => (pe_xf T hno hz hf he hb).run pins s σ H Q I h⟩
def CatchW (K : PySem.W.Frag) (CE CM : Addr) (Q : VK) : XK := fun cls d H' => ∃ (C dd : Addr) (fs : List (Str × V)) (wd : Str) (l : Bool), FamW K CE CM C l ∧ d = some dd ∧ cls = .ref C ∧ H' dd = some (.xd fs) ∧ fs.lookup (Str.ofString "word") = some (V.str wd) ∧ ∀ t, H' t = none → Q (.ref t) (upd H' t (.tup [.non, .str wd]))
def TTw (K : PySem.W.Frag) (CE CM : Addr) : (XK → Hp → VK → Prop) → Hp → VK → Prop := fun tl H Q => tl (CatchW K CE CM Q) H (fun v H' => ∀ t, H' t = none → Q (.ref t) (upd H' t (.tup [v, .str ""])))
theorem word_gives {X : Cx} {q : Str} {g CE CM CN : Addr} {cdg : Value} (T : ClsW X.mg CE CM CN) : AsksOf X NW "_law_word" (defScope sWord) g cdg (defBody sWord) "_law_ask" q (TTw X.K CE CM) := by
  intro f c' s H Q tl act hc h
  refine ⟨_, pss_cons (ps_set (i := 1) scWord.nd rfl (.inl rfl) pe_str) (pss_cons (ps_set (i := 2) scWord.nd rfl (.inl rfl) pe_non) (pss_cons (ps_try_manyA (i := 3) (n := "e")
      (tb := fun W D σ H => ∃ Ech : XK, (∀ cls d H', Ech cls d H' → W cls d σ H') ∧ σ[0]? = some (some (.ref f)) ∧ H c' = some (CodeO c' q) ∧ tl Ech H (fun v H' => D.nx (σ.set 2 (some v)) H')) (Wout := fun _ _ _ _ => False)
      (l := [(.ref CE, fun a cls d => tAsg (tXfA X.K a cls d "word" (tVar 3)) (gName 1)), (.ref CM, fun a cls d => tAsg (tXfA X.K a cls d "word" (tVar 3)) (gName 1)), (.ref CN, fun a cls d => tAsg (tXfA X.K a cls d "word" (tVar 3)) (gName 1))])
      rfl rfl scWord.nd rfl rfl LamX.takes0 (fun W pn xe tk _ => ⟨fun pins s' σ H' D I h' => ?_⟩)
      (.cons ⟨rfl, by decide, .inl T.gE⟩ (fun a oe cls d pn hz hf => pss_one (ps_set (i := 1) scWord.nd rfl (.inl rfl) (pe_xfA hz hf (pv 3))))
      (.cons ⟨rfl, by decide, .inl T.gM⟩ (fun a oe cls d pn hz hf => pss_one (ps_set (i := 1) scWord.nd rfl (.inl rfl) (pe_xfA hz hf (pv 3))))
      (.cons ⟨rfl, by decide, .inl T.gN⟩ (fun a oe cls d pn hz hf => pss_one (ps_set (i := 1) scWord.nd rfl (.inl rfl) (pe_xfA hz hf (pv 3)))) .nil))))
    (pss_one (ps_ret (pe_tup (pa_cons (pv 2) (pa_cons (pv 1) pa_nil))))))), ?_⟩
  · obtain ⟨Ech, hW, h1, h2, h3⟩ := h'
    exact (pss_one (ps_set (i := 2) scWord.nd rfl (.inl rfl) (act σ W pn xe Ech _ _ tk hW))).run pins s' σ H' D I ⟨rfl, h1, h2, h3⟩
  · refine ⟨CatchW X.K CE CM Q, fun cls d H' hE => ?_, rfl, hc, ?_⟩
    · obtain ⟨C, dd, fs, wd, l, Fm, rfl, rfl, hd, hl, hQ⟩ := hE
      cases l with
      | false =>
        refine ⟨true, Fm.ce, fun _ a na => ?_, fun z => Bool.noConfusion z⟩
        exact ⟨C, Fm.x, Fm.nW, .ref a, rfl, rfl, rfl, dd, _, .str wd, rfl, hd, hl, .non, rfl, .str wd, rfl, sz_2 _ _, fun t nt => hQ t nt⟩
      | true =>
        refine ⟨false, Fm.ce, fun z => Bool.noConfusion z, fun _ => ⟨true, Fm.cm rfl, fun _ a na => ?_, fun z => Bool.noConfusion z⟩⟩
        exact ⟨C, Fm.x, Fm.nW, .ref a, rfl, rfl, rfl, dd, _, .str wd, rfl, hd, hl, .non, rfl, .str wd, rfl, sz_2 _ _, fun t nt => hQ t nt⟩
    · have e2 : (fun (v : V) (H' : Hp) => ∃ x2, ([some (.ref f), some (.str ""), some v, none] : L2.St)[2]? = some (some x2) ∧ ∃ x1, ([some (.ref f), some (.str ""), some v, none] : L2.St)[1]? = some (some x1) ∧ ([x2, x1].length ≤ sizeLine ∧ ∀ t, H' t = none → Q (.ref t) (upd H' t (.tup [x2, x1])))) =
          (fun (v : V) (H' : Hp) => ∀ t, H' t = none → Q (.ref t) (upd H' t (.tup [v, .str ""]))) := by
        funext v H'
        refine propext ⟨fun ⟨x2, h2, x1, h1, _, hq⟩ => ?_, fun hq => ⟨v, rfl, .str "", rfl, sz_2 _ _, hq⟩⟩
        cases Option.some.inj (Option.some.inj h2)
        cases Option.some.inj (Option.some.inj h1)
        exact hq
      have h' : tl (CatchW X.K CE CM Q) H (fun (v : V) (H' : Hp) => ∃ x2, ([some (.ref f), some (.str ""), some v, none] : L2.St)[2]? = some (some x2) ∧ ∃ x1, ([some (.ref f), some (.str ""), some v, none] : L2.St)[1]? = some (some x1) ∧ ([x2, x1].length ≤ sizeLine ∧ ∀ t, H' t = none → Q (.ref t) (upd H' t (.tup [x2, x1])))) := by
        rw [e2]
        exact h
      exact h'
/-- a refusal caught: what an ask that may be refused wants of E -/
theorem caught {K : PySem.W.Frag} {CE CM C : Addr} {wd : Str} {l : Bool} {H : Hp} {Q : VK} (Fm : FamW K CE CM C l) (q : ∀ H' t, Same H H' → H' t = some (.tup [.non, .str wd]) → Q (.ref t) H') : RefW C wd H (CatchW K CE CM Q) :=
  fun H' d fs s e hl => ⟨C, d, fs, wd, l, Fm, rfl, rfl, e, hl, fun t nt => q _ t (s.trans (same_new nt)) upd_same⟩
theorem turn_fn {H H4 H5 : Hp} {D : Addr} {xs : List Int} {i : Nat} {v : Int} (nD : H D = none) (hx : xs[i]? = some v) (hz : xs.length ≤ 1000) (s4 : Same H H4) (hD : H4 D = some (.lst ((xs.take i).map V.int))) (s5 : Same H4 H5) :
    ∃ acc, H5 D = some (.lst acc) ∧ acc.length < sizeLine ∧ Same H (upd H5 D (.lst (acc ++ [.int v]))) ∧ upd H5 D (.lst (acc ++ [.int v])) D = some (.lst ((xs.take (i + 1)).map V.int)) := by
  refine ⟨_, s5 _ _ hD, ?_, same_late (s4.trans s5) nD, ?_⟩
  · rw [List.length_map]
    exact small1000 (Nat.le_trans (List.length_take_le' _ _) hz)
  · rw [upd_same, List.take_add_one, hx, List.map_append]
    rfl
def dotR (xs ys : List Int) : List Int := (List.range xs.length).map fun i => xs.getD i 0 * ys.getD i 0
theorem dotR_eq {xs ys : List Int} (h : xs.length = ys.length) : (dotR xs ys).sum = dotI xs ys := by
  unfold dotR dotI
  congr 1
  refine List.ext_getElem? fun i => ?_
  rw [List.getElem?_map, List.getElem?_map]
  by_cases hi : i < xs.length
  · rw [List.getElem?_range hi, zipI_at (getD_at hi) (getD_at (by omega))]
    rfl
  · rw [List.getElem?_eq_none (by rw [List.length_range]; omega), List.getElem?_eq_none (by rw [List.length_zip]; omega)]
    rfl
theorem dot_ones {xs : List Int} : dotI xs (numI xs.length []) = xs.sum := by
  unfold numI dotI
  rw [if_pos rfl]
  congr 1
  refine List.ext_getElem? fun i => ?_
  rw [List.getElem?_map]
  by_cases hi : i < xs.length
  · have e1 : xs[i]? = some xs[i] := List.getElem?_eq_getElem hi
    have e2 : (List.replicate xs.length (1 : Int))[i]? = some 1 := by rw [List.getElem?_replicate, if_pos hi]
    rw [zipI_at e1 e2, e1]
    show some (xs[i] * 1) = some xs[i]
    rw [Int.mul_one]
  · rw [List.getElem?_eq_none (by rw [List.length_zip]; omega), List.getElem?_eq_none (by omega)]
    rfl
theorem scWi : FnScope ["_law_feed_here", "_law_mlot", "_law_reach", "_law_hold_here"] ["_law_feed_here", "_law_mlot"] (defScope sWish) := ⟨rfl, rfl, rfl, by decide +kernel, rfl, by decide +kernel, by decide +kernel⟩
section
variable {P : Program} {w : World} {K : PySem.W.Frag} {mg : Str → Option Value} {base : Heap}
def PvD (f c : Addr) (H : Hp) (D : Addr) (ok : Int → Prop) (i : Nat) (H' : Hp) : Prop := Kp f H H' ∧ FeedAt c H' f ∧ ∃ ns : List Int, H' D = some (.lst (ns.map V.int)) ∧ ns.length = i ∧ ∀ n ∈ ns, ok n
theorem PvD.more {f c : Addr} {H H' H2 : Hp} {D : Addr} {ok : Int → Prop} {i : Nat} {z : Int} (nD : H D = none) (nf : D ≠ f) (nc : D ≠ c) (hi : i ≤ 100) (h : PvD f c H D ok i H') (k2 : Kp f H' H2) (F2 : FeedAt c H2 f) (hz : ok z) :
    ∃ acc, H2 D = some (.lst acc) ∧ acc.length < sizeLine ∧ PvD f c H D ok (i + 1) (upd H2 D (.lst (acc ++ [.int z]))) := by
  obtain ⟨kp, F', ns, hD, hl, hb⟩ := h
  refine ⟨_, k2 _ _ nf hD, ?_, (kp.trans k2).late nD, F2.put nf nc, ns ++ [z], ?_, ?_, ?_⟩
  · rw [List.length_map]
    exact small1000 (by omega)
  · rw [upd_same, List.map_append]
    rfl
  · rw [List.length_append, hl]
    rfl
  · intro n hn
    rcases List.mem_append.mp hn with h | h
    · exact hb n h
    · rw [List.mem_singleton.mp h]
      exact hz
def spWish : Sp := fun vs H Q _ => ∃ (f c p : Addr) (as : List Addr) (ll : List (List Int)), vs = [.ref f, .ref p] ∧ FeedAt c H f ∧ RowsAt H p as ll ∧ 1 ≤ ll.length ∧ ll.length ≤ 100 ∧
  ∀ H' z ws, Kp f H H' → FeedAt c H' f → IntsAt H' z ws → ws.length ≤ 100 → okWish ll.length ws = true → Q (.ref z) H'
theorem ok_wish {f : Addr} {fd : FuncData} (F : Fun K "_law_wish" "_law_wish" sWish f fd) (B : Bl mg) (CD : Cal P w K mg base CX0 1 "_law_draw" ["_law_feed_here", "_law_many"] spDraw) (CP : Cal P w K mg base CX0 2 "_law_pick" ["_law_feed_here", "_law_row"] spPick) :
    FnOk P w K mg base CX0 3 f fd ["_law_feed_here", "_law_mlot"] spWish := by
  obtain ⟨fD, fdD, GD, gD, kD, bD⟩ := CD.ex
  obtain ⟨fP, fdP, GP, gP, kP, bP⟩ := CP.ex
  refine F.ok scWi (fun vs H Q E h => ?_) (fun cdv A outer s H vs Q E hr h => ?_)
  · obtain ⟨a, c, p, as, ll, rfl, _⟩ := h
    rfl
  · obtain ⟨a, c, p, as, ll, rfl, Fd, R, h1, h2, q⟩ := h
    refine ⟨_, (pss_cons (ps_if (pt_cmpR op_eq (pe_call GD (hr.mono (by decide)) (by rfl) gD kD bD .nil pass0 (pa_cons (pv 0) (pa_cons pe_int pa_nil))) pe_int (nomark _)) (pss_one (ps_ret (pe_tup pa_nil))) pss_nil)
      (pss_cons (ps_set (i := 2) scWi.nd rfl (.inr rfl) (pe_call GP (hr.mono (by decide)) (by rfl) gP kP bP .nil pass0 (pa_cons (pv 0) (pa_cons (pe_lst (pa_cons pe_int (pa_cons pe_int (pa_cons pe_int pa_nil)))) pa_nil))))
      (pss_one (ps_ret (pe_callTy call_tuple_of (by rfl) B.tuple (by decide +kernel) (pa_cons (pe_lc (own := [("_law_hold_here", 3)]) (g := gName 3) (tt := tYes) rfl scWi.nd (pi_tup (pv 1))
        (blkOk_by (own := [("_law_hold_here", 3)]) (N := ["_law_feed_here", "_law_mlot", "_law_reach", "_law_hold_here"]) (sc := defScope sWish) (by decide +kernel)) (fun _ _ _ _ _ => pg_name (i := 3) scWi.nd rfl (Or.inl rfl)) (fun _ _ _ _ _ => pts_nil)
        (fun _ _ _ _ _ => (pe_op op_sub (pe_call GD (hr.mono (by decide)) (by rfl) gD kD bD .nil pass0 (pa_cons (pv 0) (pa_cons (pe_op op_add (pe_op op_mul pe_int (pv 2)) pe_int) pa_nil))) (pv 2)))) pa_nil)))))), ?_⟩
    refine ⟨.ref a, rfl, a, c, 3, rfl, by decide, by decide, Fd, fun d H1 _ _ k1 F1 => ?_⟩
    refine ⟨rfl, _, rfl, ite2 (fun _ => ?_) (fun _ => ?_)⟩
    · exact ⟨Nat.zero_le _, fun t nt => q _ t [] (k1.trans (Kp.new nt)) (F1.new nt) upd_same (by decide) rfl⟩
    refine ⟨.ref a, rfl, (by show 3 ≤ sizeLine; decide), fun l nl => ?_⟩
    refine ⟨a, c, l, _, rfl, upd_same, F1.ne nl, (by show 1 ≤ 3; decide), (by show 3 ≤ 1000000; decide), F1.new nl, fun v H2 hv k2 F2 => ?_⟩
    obtain ⟨r, rfl, r1, r2⟩ : ∃ r : Int, v = .int r ∧ 1 ≤ r ∧ r ≤ 99 := by
      simp only [List.mem_cons, List.mem_nil_iff, or_false] at hv
      rcases hv with h | h | h <;> exact ⟨_, h, by decide, by decide⟩
    have k12 : Kp a H H2 := k1.trans ((Kp.new nl).trans k2)
    have R2 := R.kp Fd k12
    refine ⟨.ref p, rfl, p, rfl, ⟨_, SqT.of R2.1⟩, fun D nD => ?_⟩
    have nf := F2.ne nD
    have nc := F2.neC nD
    have hlen := R.2.len
    refine lc_tup (K := K) (a := p) (xs := as.map V.ref) (PvD a c H2 D fun n => -99 ≤ n ∧ n ≤ 99) ⟨Kp.new nD, F2.new nD, [], upd_same, rfl, fun n hn => by cases hn⟩ (fun i H' _ hP => SqT.of (R2.kp F2 hP.1).1) (fun i x H' hx hP => ?_) (fun H' hP => ?_)
    · have hi : i < as.length := by
        have := (List.getElem?_eq_some_iff.mp hx).1
        rw [List.length_map] at this
        exact this
      refine ⟨rfl, yes (iteT ?_)⟩
      refine ⟨.ref a, rfl, .int r, rfl, 2, r, rfl, rfl, .inl ⟨by decide, by decide⟩, _, 1, rfl, rfl, a, c, _, rfl, by omega, by omega, hP.2.1, fun d H3 d0 d1 k3 F3 => ?_⟩
      exact ⟨.int r, rfl, d, r, rfl, rfl, hP.more nD nf nc (by omega) k3 F3 ⟨by omega, by omega⟩⟩
    · obtain ⟨kp, F', ns, hD, hl, hb⟩ := hP
      rw [List.length_map, hlen] at hl
      refine ⟨D, _, rfl, .inl ⟨SqL.of hD, fun t nt => q _ t ns (k12.trans (kp.trans (Kp.new nt))) (F'.new nt) upd_same (by omega) ?_⟩⟩
      unfold okWish
      rw [decide_eq_true hl, show (ns.all fun z => decide (-99 ≤ z ∧ z ≤ 99)) = true from List.all_eq_true.mpr fun z hz => decide_eq_true (hb z hz)]
      cases decide (ns = []) <;> rfl
theorem atIT {xs : List Int} {i : Nat} (h : i < xs.length) : atI (xs.map V.int) (i : Int) = some (.int (xs.getD i 0)) := atI_nat (by rw [List.getElem?_map, getD_at h]; rfl)
end
theorem subR_at {xs ys : List Int} {i : Nat} {k : Int} (h1 : i < xs.length) (h2 : i < ys.length) : (subR xs ys k)[i]? = some (xs.getD i 0 - k * ys.getD i 0) := by
  unfold subR
  rw [List.getElem?_map, zipI_at (List.getElem?_eq_getElem h1) (List.getElem?_eq_getElem h2), List.getD_eq_getElem?_getD, List.getElem?_eq_getElem h1, List.getD_eq_getElem?_getD, List.getElem?_eq_getElem h2]
  rfl
theorem subR_times {k : Int} : ∀ {b h : List Int}, subR b (h.map fun z => z * k) 1 = subR b h k
  | [], _ => rfl
  | _ :: _, [] => rfl
  | x :: b, y :: h => by
    rw [List.map_cons, subR_cons, subR_cons, subR_times]
    congr 1
    rw [Int.one_mul, Int.mul_comm]
section
variable {P : Program} {w : World} {K : PySem.W.Frag} {mg : Str → Option Value} {base : Heap}
end
theorem seq_c {v : V} {i : Nat} {B : TS} {D : Ends} {σ : L2.St} {H : Hp} (h : B D (σ.set i (some v)) H) : tSeq (tAsg (tC v) (gName i)) B D σ H := h
theorem seq_e {te : TE} {i : Nat} {B : TS} {D : Ends} {σ : L2.St} {H : Hp} (h : te σ H fun v H1 => B D (σ.set i (some v)) H1) : tSeq (tAsg te (gName i)) B D σ H := h
theorem asg_e {te : TE} {i : Nat} {D : Ends} {σ : L2.St} {H : Hp} (h : te σ H fun v H1 => D.nx (σ.set i (some v)) H1) : tAsg te (gName i) D σ H := h
end HL

set_option pp.maxSteps 3000
namespace HL
open PySem PySem.Spec PyProof.Rows L2
open C8 (pss_cut)
/-! ### loads as the law lists them -/
def LdAt (H : Hp) (a : Addr) (q : List Int × List Int) : Prop := ∃ r1 r2 : Addr, H a = some (.tup [.ref r1, .ref r2]) ∧ IntsAt H r1 q.1 ∧ IntsAt H r2 q.2
theorem IntsAt.put {H : Hp} {a D : Addr} {ns : List Int} {xs ys : List V} (x : IntsAt H a ns) (hD : H D = some (.lst xs)) : IntsAt (upd H D (.lst ys)) a ns := by
  have x' : H a = some (.tup (ns.map V.int)) := x
  show upd H D (.lst ys) a = some (.tup (ns.map V.int))
  rw [upd_ne fun e => ?_]
  · exact x'
  · rw [e, hD] at x'
    cases x'
theorem LdAt.same {H H' : Hp} {a : Addr} {q : List Int × List Int} (x : LdAt H a q) (s : Same H H') : LdAt H' a q := by
  obtain ⟨r1, r2, h1, h2, h3⟩ := x
  exact ⟨r1, r2, s _ _ h1, h2.same s, h3.same s⟩
theorem LdAt.put {H : Hp} {a D : Addr} {q : List Int × List Int} {xs ys : List V} (x : LdAt H a q) (hD : H D = some (.lst xs)) : LdAt (upd H D (.lst ys)) a q := by
  obtain ⟨r1, r2, h1, h2, h3⟩ := x
  refine ⟨r1, r2, ?_, h2.put hD, h3.put hD⟩
  rw [upd_ne fun e => ?_]
  · exact h1
  · rw [e, hD] at h1
    cases h1
def LdsAt (H : Hp) (as : List Addr) (qs : List (List Int × List Int)) : Prop := as.length = qs.length ∧ ∀ (i : Nat) (a : Addr) (q : List Int × List Int), as[i]? = some a → qs[i]? = some q → LdAt H a q
theorem LdsAt.map {H H' : Hp} {as : List Addr} {qs : List (List Int × List Int)} (x : LdsAt H as qs) (f : ∀ a q, LdAt H a q → LdAt H' a q) : LdsAt H' as qs := ⟨x.1, fun i a q h1 h2 => f a q (x.2 i a q h1 h2)⟩
theorem LdsAt.same {H H' : Hp} {as : List Addr} {qs : List (List Int × List Int)} (x : LdsAt H as qs) (s : Same H H') : LdsAt H' as qs := x.map fun _ _ y => y.same s
theorem LdsAt.more {H : Hp} {as : List Addr} {qs : List (List Int × List Int)} {a : Addr} {q : List Int × List Int} (x : LdsAt H as qs) (y : LdAt H a q) : LdsAt H (as ++ [a]) (qs ++ [q]) := by
  refine ⟨by rw [List.length_append, List.length_append, x.1]; rfl, fun i b p h1 h2 => ?_⟩
  by_cases c : i < as.length
  · rw [List.getElem?_append_left c] at h1
    rw [List.getElem?_append_left (by rw [← x.1]; exact c)] at h2
    exact x.2 i b p h1 h2
  · rw [List.getElem?_append_right (by omega)] at h1
    rw [List.getElem?_append_right (by rw [← x.1]; omega)] at h2
    rw [← x.1] at h2
    cases e : i - as.length with
    | zero =>
      rw [e] at h1 h2
      cases Option.some.inj h1
      cases Option.some.inj h2
      exact y
    | succ n =>
      rw [e] at h1
      simp at h1
/-- one load and a kind: all takings -/
def stp1 (h : List Int) (q : List Int × List Int) : List (List Int × List Int) := (takes q.2 h).map fun (k : Nat) => (q.1 ++ [(k : Int)], subR q.2 h (k : Int))
def stp (h : List Int) (rows : List (List Int × List Int)) : List (List Int × List Int) := rows.flatMap (stp1 h)
theorem lds_app : ∀ {l1 l2 : List (List Int)} {rows : List (List Int × List Int)}, lds (l1 ++ l2) rows = lds l2 (lds l1 rows)
  | [], _, _ => rfl
  | h :: t, l2, rows => lds_app (l1 := t)
theorem lds_one {h : List Int} {rows : List (List Int × List Int)} : lds [h] rows = stp h rows := rfl
theorem lds_take {ll : List (List Int)} {i : Nat} {h : List Int} {rows : List (List Int × List Int)} (e : ll[i]? = some h) : lds (ll.take (i + 1)) rows = stp h (lds (ll.take i) rows) := by
  rw [List.take_add_one, e, lds_app]
  rfl
theorem tk_len {b h : List Int} : (takes b h).length ≤ b.sum.toNat + 1 := by
  unfold takes
  exact Nat.le_trans (List.length_filter_le _ _) (by rw [List.length_range]; exact Nat.le_refl _)
/-- what holds of each load on the way -/
def LdOk (g S : Nat) (n : Nat) (q : List Int × List Int) : Prop := q.1.length = n ∧ q.2.length = g ∧ q.2.sum.toNat ≤ S
theorem stp_ok {g S n : Nat} {h : List Int} (kh : Kd g h) {rows : List (List Int × List Int)} (hr : ∀ q ∈ rows, LdOk g S n q) : ∀ q ∈ stp h rows, LdOk g S (n + 1) q := fun q hq => by
  obtain ⟨p, hp, hm⟩ := List.mem_flatMap.mp hq
  obtain ⟨k, _, rfl⟩ := List.mem_map.mp hm
  obtain ⟨h1, h2, h3⟩ := hr p hp
  have e : p.2.length = h.length := by rw [h2, kh.1]
  refine ⟨by rw [List.length_append, h1]; rfl, by rw [subR_len e, h2], ?_⟩
  show (subR p.2 h (k : Int)).sum.toNat ≤ S
  rw [subR_sum e]
  have := sum_kd kh
  have : 0 ≤ (k : Int) * h.sum := Int.mul_nonneg (by omega) (by omega)
  omega
theorem stp_len {g S n : Nat} {h : List Int} : ∀ {rows : List (List Int × List Int)}, (∀ q ∈ rows, LdOk g S n q) → (stp h rows).length ≤ rows.length * (S + 1)
  | [], _ => Nat.zero_le _
  | q :: rows, hr => by
    have ih := stp_len (h := h) (rows := rows) fun p hp => hr p (List.mem_cons_of_mem _ hp)
    have h1 : (stp1 h q).length ≤ S + 1 := by
      unfold stp1
      rw [List.length_map]
      have := tk_len (b := q.2) (h := h)
      have := (hr q List.mem_cons_self).2.2
      omega
    show ((q :: rows).flatMap (stp1 h)).length ≤ _
    rw [List.flatMap_cons, List.length_append, List.length_cons, Nat.add_mul]
    have : (rows.flatMap (stp1 h)).length ≤ rows.length * (S + 1) := ih
    omega
theorem lds_all {g S : Nat} {ll : List (List Int)} {b : List Int} (hk : ∀ h ∈ ll, Kd g h) (hb : b.length = g) (hS : b.sum.toNat ≤ S) : ∀ {i : Nat}, i ≤ ll.length → (∀ q ∈ lds (ll.take i) [([], b)], LdOk g S i q) ∧ (lds (ll.take i) [([], b)]).length ≤ (S + 1) ^ i
  | 0, _ => by
    rw [List.take_zero]
    refine ⟨fun q hq => ?_, by simp [lds]⟩
    have : q ∈ [(([] : List Int), b)] := hq
    rw [List.mem_singleton.mp this]
    exact ⟨rfl, hb, hS⟩
  | i + 1, hi => by
    obtain ⟨h1, h2⟩ := lds_all hk hb hS (i := i) (by omega)
    have e : ll[i]? = some (ll[i]'(by omega)) := List.getElem?_eq_getElem _
    rw [lds_take e]
    refine ⟨stp_ok (hk _ (List.getElem_mem _)) h1, Nat.le_trans (stp_len h1) ?_⟩
    rw [Nat.pow_succ]
    exact Nat.mul_le_mul_right _ h2
abbrev NLd : List Str := ["_law_mlot", "_law_mbill", "_law_rows", "_law_hold_here", "_law_longer", "_law_counts", "_law_left", "_law_many"]
theorem smallM {n : Nat} (h : n ≤ 1000000) : n < sizeLine := Nat.lt_of_le_of_lt h (by decide)
section
variable {P : Program} {w : World} {K : PySem.W.Frag} {mg : Str → Option Value} {base : Heap}
end
end HL

set_option pp.maxSteps 3000
namespace HL
open PySem PySem.Spec PyProof.Rows L2
open C8 (pss_cut)
theorem stp_nn {h : List Int} {rows : List (List Int × List Int)} : ∀ q ∈ stp h rows, nnB q.2 = true := fun q hq => by
  obtain ⟨p, hp, hm⟩ := List.mem_flatMap.mp hq
  obtain ⟨k, hk, rfl⟩ := List.mem_map.mp hm
  unfold takes at hk
  exact (List.mem_filter.mp hk).2
theorem lds_nn : ∀ {ll : List (List Int)} {rows : List (List Int × List Int)}, (∀ q ∈ rows, nnB q.2 = true) → ∀ q ∈ lds ll rows, nnB q.2 = true
  | [], _, h => h
  | x :: t, rows, _ => lds_nn (ll := t) (rows := stp x rows) stp_nn
theorem sum_zero_iff : ∀ {b : List Int}, (∀ n ∈ b, 0 ≤ n) → (b.sum = 0 ↔ zeroB b = true)
  | [], _ => ⟨fun _ => rfl, fun _ => rfl⟩
  | x :: b, h => by
    have x0 := h x List.mem_cons_self
    have hb : ∀ n ∈ b, 0 ≤ n := fun n hn => h n (List.mem_cons_of_mem _ hn)
    have b0 := sum_nn hb
    have ih := sum_zero_iff hb
    rw [List.sum_cons, zeroB_iff]
    constructor
    · intro e n hn
      rcases List.mem_cons.mp hn with c | c
      · omega
      · exact zeroB_iff.mp (ih.mp (by omega)) n c
    · intro e
      have := e x List.mem_cons_self
      have := ih.mpr (zeroB_iff.mpr fun n hn => e n (List.mem_cons_of_mem _ hn))
      omega
theorem scSB : FnScope ["_law_feed_here", "_law_mlot", "_law_good"] ["_law_feed_here", "_law_mlot"] (defScope sSmallBill) := ⟨rfl, rfl, rfl, by decide +kernel, rfl, by decide +kernel, by decide +kernel⟩
/-- one more drawn number in a list -/
theorem drawn {H H' H2 : Hp} {a c D : Addr} {ns : List Int} {lim d : Int} (nD : H D = none) (nDf : D ≠ a) (nDc : D ≠ c) (kp : Kp a H H') (hD : H' D = some (.lst (ns.map V.int))) (k2 : Kp a H' H2) (F2 : FeedAt c H2 a) (hz : ns.length ≤ 900) (hb : ∀ n ∈ ns, 0 ≤ n ∧ n < lim) (d0 : 0 ≤ d) (d1 : d < lim) :
    ∃ acc, H2 D = some (.lst acc) ∧ acc.length < sizeLine ∧ Kp a H (upd H2 D (.lst (acc ++ [.int d]))) ∧ FeedAt c (upd H2 D (.lst (acc ++ [.int d]))) a ∧
      ∃ ms : List Int, upd H2 D (.lst (acc ++ [.int d])) D = some (.lst (ms.map V.int)) ∧ ms.length = ns.length + 1 ∧ ∀ n ∈ ms, 0 ≤ n ∧ n < lim := by
  have hD2 := k2 _ _ nDf hD
  refine ⟨_, hD2, ?_, (kp.trans k2).late nD, F2.put nDf nDc, ns ++ [d], ?_, ?_, ?_⟩
  · rw [List.length_map]
    exact small1000 (by omega)
  · rw [upd_same, List.map_append]
    rfl
  · rw [List.length_append]
    rfl
  · intro n hn
    rcases List.mem_append.mp hn with h | h
    · exact hb n h
    · rw [List.mem_singleton.mp h]
      exact ⟨d0, d1⟩
def limW (w : Nat) : Int := if w = 1 then 13 else if w = 2 then 6 else 4
section
variable {P : Program} {w : World} {K : PySem.W.Frag} {mg : Str → Option Value} {base : Heap}
def spSmallBill : Sp := fun vs H Q _ => ∃ (f c p : Addr) (as : List Addr) (ll : List (List Int)), vs = [.ref f, .ref p] ∧ FeedAt c H f ∧ RowsAt H p as ll ∧ 1 ≤ ll.length ∧ 1 ≤ width ll ∧ width ll ≤ 3 ∧
  ∀ H' t b, Kp f H H' → FeedAt c H' f → IntsAt H' t b → b.length = width ll → (∀ n ∈ b, 0 ≤ n ∧ n < limW (width ll)) → Q (.ref t) H'
theorem ok_smallBill {f : Addr} {fd : FuncData} (F : Fun K "_law_small_bill" "_law_small_bill" sSmallBill f fd) (B : Bl mg) (CD : Cal P w K mg base CX0 1 "_law_draw" ["_law_feed_here", "_law_many"] spDraw) : FnOk P w K mg base CX0 2 f fd ["_law_feed_here", "_law_mlot"] spSmallBill := by
  obtain ⟨fD, fdD, GD, gD, kD, bD⟩ := CD.ex
  refine F.ok scSB (fun vs H Q E h => ?_) (fun cdv A outer s H vs Q E hr h => ?_)
  · obtain ⟨a, c, p, as, ll, rfl, _⟩ := h
    rfl
  · obtain ⟨a, c, p, as, ll, rfl, Fd, R, l1, w1, w3, q⟩ := h
    refine ⟨_, (pss_one (ps_ret (pe_callTy call_tuple_of (by rfl) B.tuple (by decide +kernel) (pa_cons (pe_lc (own := [("_law_good", 2)]) (g := gName 2) (tt := tYes) (te := tCall spDraw [] E0 (tCons (tVar 0) (tCons (tOp (rIxL K) (tLst (tCons (tC (.int 13)) (tCons (tC (.int 6)) (tCons (tC (.int 4)) tNil)))) (tOp (rI0 fun i j => .int (i - j)) (tCB (fun xs H Q => ∃ p xs', xs = [.ref p] ∧ (SqL K H p xs' ∨ SqT K H p xs') ∧ Q (.int xs'.length) H) (tCons (tOp (rIxT K) (tVar 1) (tC (.int 0))) tNil)) (tC (.int 1)))) tNil))) rfl scSB.nd (pi_tup (pe_ix ix_tup (pv 1) pe_int (fun _ _ => rfl)))
        (blkOk_by (own := [("_law_good", 2)]) (N := ["_law_feed_here", "_law_mlot", "_law_good"]) (sc := defScope sSmallBill) (by decide +kernel)) (fun _ _ _ _ _ => pg_name (i := 2) scSB.nd rfl (Or.inl rfl)) (fun _ _ _ _ _ => pts_nil)
        (fun _ _ _ _ _ => (pe_call GD hr (by rfl) gD kD bD .nil pass0 (pa_cons (pv 0) (pa_cons (pe_ix (r := rIxL K) ix_list (pe_lst (pa_cons pe_int (pa_cons pe_int (pa_cons pe_int pa_nil)))) (pe_op op_sub (pe_callB call_len_seq (by rfl) B.len PySem.boot_len (pa_cons (pe_ix (r := rIxT K) ix_tup (pv 1) pe_int (fun _ _ => rfl)) pa_nil)) pe_int) (fun _ _ => rfl)) pa_nil))))) pa_nil)))), ?_⟩
    obtain ⟨a0, ha0, hh0, hw⟩ := R.2.head l1
    have at0 : atI (as.map V.ref) 0 = some (.ref a0) := atI_nat (j := 0) (by rw [List.getElem?_map, ha0]; rfl)
    have hal : as.length = ll.length := R.2.len
    refine ⟨.ref p, rfl, p, _, 0, .ref a0, rfl, rfl, SqT.of R.1, at0, a0, rfl, ⟨_, SqT.of hh0⟩, fun D nD => ?_⟩
    have nDf : D ≠ a := Fd.ne nD
    have nDc : D ≠ c := Fd.neC nD
    have hs0 : ∀ H', Kp a H H' → SqT K H' p (as.map V.ref) ∧ SqT K H' a0 _ := fun H' kp => ⟨SqT.of (kp _ _ (Fd.tup R.1) R.1), SqT.of (kp _ _ (Fd.tup hh0) hh0)⟩
    refine lc_tup (K := K) (a := a0) (fun i H' => Kp a H H' ∧ FeedAt c H' a ∧ ∃ ns : List Int, H' D = some (.lst (ns.map V.int)) ∧ ns.length = i ∧ ∀ n ∈ ns, 0 ≤ n ∧ n < limW (width ll)) ⟨Kp.new nD, Fd.new nD, [], upd_same, rfl, fun n hn => by cases hn⟩ (fun i H' _ hP => (hs0 H' hP.1).2) (fun i x H' hx ⟨kp, F', ns, hD, hl, hb⟩ => ?_) (fun H' ⟨kp, F', ns, hD, hl, hb⟩ => ?_)
    · have hil : i < width ll := by
        have := (List.getElem?_eq_some_iff.mp hx).1
        rw [List.length_map, hw] at this
        exact this
      refine ⟨rfl, yes (iteT ?_)⟩
      refine ⟨.ref a, rfl, by show 3 ≤ sizeLine; decide, fun L nL => ?_⟩
      have sL := same_new (o := .lst [.int 13, .int 6, .int 4]) nL
      have kL := kp.trans (Kp.new (f := a) (o := .lst [.int 13, .int 6, .int 4]) nL)
      obtain ⟨sp, sa⟩ := hs0 _ kL
      have el : atI [V.int 13, V.int 6, V.int 4] (((width ll : Nat) : Int) - 1) = some (.int (limW (width ll))) := by
        unfold limW
        have : width ll = 1 ∨ width ll = 2 ∨ width ll = 3 := by omega
        rcases this with e | e | e <;> rw [e] <;> rfl
      refine ⟨.ref p, rfl, p, _, 0, .ref a0, rfl, rfl, sp, at0, a0, _, rfl, .inr sa, _, 1, rfl, rfl, L, _, _, .int (limW (width ll)), rfl, rfl, SqL.of upd_same, by rw [List.length_map, hw]; exact el, ?_⟩
      have hl1 : 1 ≤ limW (width ll) ∧ limW (width ll) ≤ 13 := by
        unfold limW
        split
        · decide
        · split <;> decide
      refine ⟨a, c, limW (width ll), rfl, hl1.1, by omega, F'.same sL, fun d H2 d0 d1 k2 F2 => ?_⟩
      obtain ⟨acc, e1, e2, e3, e4, ms, e5, e6, e7⟩ := drawn nD nDf nDc kL (sL _ _ hD) k2 F2 (by omega) hb d0 d1
      exact ⟨acc, e1, e2, e3, e4, ms, e5, by rw [e6, hl], e7⟩
    · refine ⟨D, _, rfl, .inl ⟨SqL.of hD, fun t nt => ?_⟩⟩
      exact q _ t ns (kp.trans (Kp.new nt)) (F'.new nt) upd_same (by rw [hl, List.length_map, hw]) hb
end

section
variable {P : Program} {w : World} {K : PySem.W.Frag} {mg : Str → Option Value} {base : Heap}
end
end HL

set_option pp.maxSteps 3000
namespace HL
open PySem PySem.Spec PyProof.Rows L2
open C8 (pss_cut)
open RZ (pi_zipA ItzT iZipA)
theorem scOp : FnScope ["row", "number"] ["row"] (defScope sOpp) := ⟨rfl, rfl, rfl, by decide +kernel, rfl, by decide +kernel, by decide +kernel⟩
theorem scUn : FnScope ["place", "many"] ["place", "many"] (defScope sUnit) := ⟨rfl, rfl, rfl, by decide +kernel, rfl, by decide +kernel, by decide +kernel⟩
theorem scPk : FnScope ["lot", "counts", "good", "count", "hold"] ["lot", "counts", "good"] (defScope sPacked) := ⟨rfl, rfl, rfl, by decide +kernel, rfl, by decide +kernel, by decide +kernel⟩
theorem scNo : FnScope ["row", "number"] ["row"] (defScope sIsNought) := ⟨rfl, rfl, rfl, by decide +kernel, rfl, by decide +kernel, by decide +kernel⟩
theorem scLe : FnScope ["row", "other", "times", "number", "taken"] ["row", "other", "times"] (defScope sLess) := ⟨rfl, rfl, rfl, by decide +kernel, rfl, by decide +kernel, by decide +kernel⟩
theorem scMk : FnScope ["row", "number", "place"] ["row"] (defScope sMarks) := ⟨rfl, rfl, rfl, by decide +kernel, rfl, by decide +kernel, by decide +kernel⟩
theorem scAb : FnScope ["row", "number"] ["row"] (defScope sAbove) := ⟨rfl, rfl, rfl, by decide +kernel, rfl, by decide +kernel, by decide +kernel⟩
def zeros (n : Nat) : List Int := List.replicate n 0
theorem rep0_read {K : PySem.W.Frag} {H : Hp} {t : Addr} {n : Nat} {Q : VK} (ht : H t = some (.tup [.int 0])) (n1 : 1 ≤ n) (n2 : n ≤ 1000) (q : ∀ p H', Same H H' → IntsAt H' p (zeros n) → Q (.ref p) H') : rRepA K (.ref t) (.int (n : Nat)) H Q := by
  refine ⟨t, (n : Nat), [.int 0], rfl, rfl, SqT.of ht, by decide, by omega, by omega, by decide, fun e => ?_, fun e p np => ?_⟩
  · have : n = 1 := by omega
    subst this
    exact q t H (Same.refl _) ht
  · refine q p _ (same_new np) ?_
    unfold IntsAt
    rw [upd_same, rep_one, Int.toNat_natCast]
    unfold zeros
    rw [List.map_replicate]
theorem zeros_len (n : Nat) : (zeros n).length = n := List.length_replicate
def packI (ll : List (List Int)) (cs : List Int) (g : Nat) : Int := ((cs.zip ll).map fun q => q.1 * q.2.getD g 0).sum
def unI (g n : Nat) : List Int := (zeros g ++ [1]) ++ zeros (n - g - 1)
theorem repN_read {K : PySem.W.Frag} {H : Hp} {t : Addr} {n : Nat} {m : Int} {Q : VK} (ht : H t = some (.tup [.int 0])) (hm : m = (n : Int)) (n2 : n ≤ 1000) (q : ∀ p H', Same H H' → IntsAt H' p (zeros n) → Q (.ref p) H') : rRepN K (.ref t) (.int m) H Q := by
  subst hm
  by_cases c : n = 0
  · subst c
    exact .inl ⟨t, _, rfl, rfl, SqT.of ht, by decide, fun p np => q p _ (same_new np) upd_same⟩
  · exact .inr (rep0_read ht (by omega) n2 q)
def pk1 (g : Nat) (q : Int × List Int) : Int := q.1 * q.2.getD g 0
theorem zip_at {cs : List Int} {ll : List (List Int)} {i : Nat} {c : Int} {r : List Int} (h1 : cs[i]? = some c) (h2 : ll[i]? = some r) : (cs.zip ll)[i]? = some (c, r) := by
  rw [List.getElem?_zip_eq_some]
  exact ⟨h1, h2⟩
def mkL (r : List Int) (i : Nat) : List Int := ((List.range i).filter fun j => decide (r.getD j 0 ≠ 0)).map fun j => 1 * (2 : Int) ^ j
def mkI (r : List Int) : Int := (mkL r r.length).sum
theorem mkL_more {r : List Int} {i : Nat} : mkL r (i + 1) = mkL r i ++ if r.getD i 0 ≠ 0 then [1 * (2 : Int) ^ i] else [] := by
  unfold mkL
  rw [List.range_succ, List.filter_append, List.map_append]
  congr 1
  by_cases c : r.getD i 0 ≠ 0
  · rw [if_pos c, List.filter_cons, if_pos (decide_eq_true c)]
    rfl
  · rw [if_neg c, List.filter_cons, if_neg (fun z => c (of_decide_eq_true z))]
    rfl
theorem mkL_len {r : List Int} {i : Nat} : (mkL r i).length ≤ i := by
  unfold mkL
  rw [List.length_map]
  exact Nat.le_trans (List.length_filter_le _ _) (by rw [List.length_range]; exact Nat.le_refl _)
theorem walk_enumT {K : PySem.W.Frag} {a : Addr} {xs : List V} : Walk (IteT K a) xs.length (fun H => SqT K H a xs) (YPair (fun i => some (.int (i : Nat))) (fun i => xs[i]?)) := by
  refine ⟨fun i _ hi q => ⟨xs, xs[i], q, by simp [hi]⟩, fun _ q => ⟨xs, q, Nat.le_refl _⟩, fun i H v H' _ q y => ?_⟩
  obtain ⟨T, x, h1, h2, h3, h4⟩ := y
  exact ⟨T, .int (i : Nat), x, h1, h2, h3, rfl, h4 xs q⟩
section
variable {P : Program} {w : World} {K : PySem.W.Frag} {mg : Str → Option Value} {base : Heap}
def spOpp : Sp := fun vs H Q _ => ∃ (a : Addr) (xs : List Int), vs = [.ref a] ∧ IntsAt H a xs ∧ xs.length ≤ 100 ∧ ∀ H' p, Same H H' → IntsAt H' p (xs.map fun n => -n) → Q (.ref p) H'
theorem ok_opp {f : Addr} {fd : FuncData} {k : Nat} (F : Fun K "opposite" "opposite" sOpp f fd) (B : Bl mg) : FnOk P w K mg base CX0 (k + 1) f fd ["row"] spOpp := by
  refine F.ok scOp (fun vs H Q E h => ?_) (fun cdv A outer s H vs Q E hr h => ?_)
  · obtain ⟨a, xs, rfl, _⟩ := h
    rfl
  · obtain ⟨a, xs, rfl, ha, hz, q⟩ := h
    refine ⟨_, (pss_one (ps_ret (pe_callTy call_tuple_of (by rfl) B.tuple (by decide +kernel) (pa_cons (pe_lc (own := [("number", 1)]) (g := gName 1) (tt := tYes) rfl scOp.nd (pi_tup (pv 0))
        (blkOk_by (own := [("number", 1)]) (N := ["row", "number"]) (sc := defScope sOpp) (by decide +kernel)) (fun _ _ _ _ _ => pg_name (i := 1) scOp.nd rfl (Or.inl rfl)) (fun _ _ _ _ _ => pts_nil)
        (fun _ _ _ _ _ => (pe_un un_neg (pv 1)))) pa_nil)))), ?_⟩
    refine ⟨.ref a, rfl, a, rfl, ⟨_, SqT.of ha⟩, fun D nD => ?_⟩
    refine lc_tup (K := K) (a := a) (xs := xs.map V.int) (fun i H' => Same H H' ∧ H' D = some (.lst (((xs.map fun n => -n).take i).map V.int))) ⟨same_new nD, upd_same⟩ (fun i H' _ hP => SqT.of (ha.same hP.1)) (fun i x H' hx ⟨sm, hD⟩ => ?_) (fun H' ⟨sm, hD⟩ => ?_)
    · obtain ⟨n, hn, rfl⟩ : ∃ n, xs[i]? = some n ∧ x = V.int n := by
        rw [List.getElem?_map] at hx
        cases e : xs[i]? with
        | none => rw [e] at hx; cases hx
        | some n => rw [e] at hx; exact ⟨n, rfl, (Option.some.inj hx).symm⟩
      refine ⟨rfl, yes (iteT ⟨.int n, rfl, n, rfl, ?_⟩)⟩
      exact turn_fn (xs := xs.map fun n => -n) nD (by rw [List.getElem?_map, hn]; rfl) (by rw [List.length_map]; omega) sm hD (Same.refl _)
    · rw [List.length_map, List.take_of_length_le (by rw [List.length_map]; exact Nat.le_refl _)] at hD
      exact ⟨D, _, rfl, .inl ⟨SqL.of hD, fun z nz => q _ z (sm.trans (same_new nz)) upd_same⟩⟩
def spUnit : Sp := fun vs H Q _ => ∃ (g n : Nat), vs = [.int (g : Int), .int (n : Int)] ∧ g < n ∧ n ≤ 100 ∧ ∀ H' p, Same H H' → IntsAt H' p (unI g n) → Q (.ref p) H'
theorem ok_unit {f : Addr} {fd : FuncData} {k : Nat} (F : Fun K "unit" "unit" sUnit f fd) : FnOk P w K mg base CX0 (k + 1) f fd ["place", "many"] spUnit := by
  refine F.ok scUn (fun vs H Q E h => ?_) (fun cdv A outer s H vs Q E hr h => ?_)
  · obtain ⟨g, n, rfl, _⟩ := h
    rfl
  · obtain ⟨g, n, rfl, hg, hn, q⟩ := h
    refine ⟨_, (pss_one (ps_ret (pe_op op_catA (pe_op op_catA (pe_op op_repN (pe_tup (pa_cons pe_int pa_nil)) (pv 0)) (pe_tup (pa_cons pe_int pa_nil))) (pe_op op_repN (pe_tup (pa_cons pe_int pa_nil)) (pe_op op_sub (pe_op op_sub (pv 1) (pv 0)) pe_int))))), ?_⟩
    refine ⟨sz_1 _, fun t1 nt1 => ⟨.int (g : Int), rfl, repN_read upd_same rfl (by omega) fun z1 H1 s1 hz1 => ?_⟩⟩
    have st1 := same_new (o := .tup [.int 0]) nt1
    refine ⟨sz_1 _, fun t2 nt2 => ?_⟩
    have st2 := same_new (o := .tup [.int 1]) nt2
    refine cat_ints (ys := [1]) (hz1.same st2) (show IntsAt _ t2 [1] from upd_same) (by rw [zeros_len, List.length_singleton]; omega) fun z2 H2 s2 hz2 => ?_
    refine ⟨sz_1 _, fun t3 nt3 => ⟨.int (n : Int), rfl, .int (g : Int), rfl, _, _, rfl, rfl, _, 1, rfl, rfl, repN_read (n := n - g - 1) upd_same (by omega) (by omega) fun z3 H3 s3 hz3 => ?_⟩⟩
    have st3 := same_new (o := .tup [.int 0]) nt3
    refine cat_ints ((hz2.same st3).same s3) hz3 (by rw [List.length_append, zeros_len, zeros_len, List.length_singleton]; omega) fun z4 H4 s4 hz4 => ?_
    exact q H4 z4 (st1.trans (s1.trans (st2.trans (s2.trans (st3.trans (s3.trans s4)))))) hz4
def spPacked (K : PySem.W.Frag) : Sp := fun vs H Q _ => ∃ (p c : Addr) (g : Nat) (as : List Addr) (ll : List (List Int)) (cs : List Int), vs = [.ref p, .ref c, .int (g : Int)] ∧ RowsAt H p as ll ∧ IT K H c cs ∧ cs.length = ll.length ∧ ll.length ≤ 100 ∧
  (∀ r ∈ ll, g < r.length ∧ ∀ n ∈ r, 0 ≤ n ∧ n ≤ 6) ∧ ∀ H', Same H H' → Q (.int (packI ll cs g)) H'
theorem ok_packed {f : Addr} {fd : FuncData} {k : Nat} (F : Fun K "packed" "packed" sPacked f fd) (B : Bl mg) (mz : mg "zip" = none) : FnOk P w K mg base CX0 (k + 1) f fd ["lot", "counts", "good"] (spPacked K) := by
  refine F.ok scPk (fun vs H Q E h => ?_) (fun cdv A outer s H vs Q E hr h => ?_)
  · obtain ⟨p, c, g, as, ll, cs, rfl, _⟩ := h
    rfl
  · obtain ⟨p, c, g, as, ll, cs, rfl, hL, hC, hl, hz, hrow, q⟩ := h
    refine ⟨_, pss_one (ps_ret (pe_callB (cr_sum rfl) (by rfl) B.sum (by decide +kernel) (pa_cons (pe_lc (own := [("count", 3), ("hold", 4)]) (g := gTup K 2 (gCons (gName 3) (gCons (gName 4) gNil))) (tt := tYes) rfl scPk.nd (pi_zipA (by rfl) mz (pa_cons (pv 1) (pa_cons (pv 0) pa_nil)))
        (blkOk_by (own := [("count", 3), ("hold", 4)]) (N := ["lot", "counts", "good", "count", "hold"]) (sc := defScope sPacked) (by decide +kernel)) (fun _ _ _ _ _ => pg_tup rfl (pgs_cons (pg_name (i := 3) scPk.nd rfl (Or.inl rfl)) (pgs_cons (pg_name (i := 4) scPk.nd rfl (Or.inl rfl)) pgs_nil))) (fun _ _ _ _ _ => pts_nil)
        (fun _ _ _ _ _ => pe_op op_mul (pv 3) (pe_ix (r := rIxT K) ix_tup (pv 4) (pv 2) (fun _ _ => rfl)))) pa_nil))), ?_⟩
    refine ⟨.ref c, rfl, .ref p, rfl, c, p, _, _, rfl, .inr ⟨hC, SqT.of hL.1, fun D nD => ?_⟩⟩
    refine ⟨fun i m H' => i + m = ll.length ∧ Same H H' ∧ H' D = some (.lst ((((cs.zip ll).take i).map (pk1 g)).map V.int)), ⟨ll.length, by omega, same_new nD, upd_same⟩, fun i m H' hW => ?_⟩
    obtain ⟨em, sm, hD⟩ := hW
    have sC : SqT K H' c (cs.map V.int) := sqT_same hC sm
    have sP : SqT K H' p (as.map V.ref) := SqT.of (sm _ _ hL.1)
    by_cases hi : i < ll.length
    · have hci : cs[i]? = some (cs[i]'(by omega)) := List.getElem?_eq_getElem (by omega)
      have hai : as[i]? = some (as[i]'(by rw [hL.2.len]; exact hi)) := List.getElem?_eq_getElem (by rw [hL.2.len]; exact hi)
      obtain ⟨r, hr1, hr2⟩ := hL.2.at hai
      have g1 : (cs.map V.int)[i]? = some (.int (cs[i]'(by omega))) := by rw [List.getElem?_map, hci]; rfl
      have g2 : (as.map V.ref)[i]? = some (.ref (as[i]'(by rw [hL.2.len]; exact hi))) := by rw [List.getElem?_map, hai]; rfl
      have hrr := hrow r (List.mem_of_getElem? hr1)
      refine .inr ⟨⟨_, _, _, _, sC, sP, g1, g2⟩, fun H2 => Same H H2 ∧ H2 D = some (.lst ((((cs.zip ll).take (i + 1)).map (pk1 g)).map V.int)), fun H2 hN => ⟨m - 1, by omega, by omega, hN⟩, fun x H2 hy => ?_⟩
      obtain ⟨T, x1, x2, rfl, nT, rfl, f1, f2⟩ := hy
      have ex1 := Option.some.inj ((f1 _ sC).symm.trans g1)
      have ex2 := Option.some.inj ((f2 _ sP).symm.trans g2)
      subst ex1 ex2
      have sT := same_new (o := .tup [V.int (cs[i]'(by omega)), V.ref (as[i]'(by rw [hL.2.len]; exact hi))]) nT
      refine ⟨T, _, rfl, SqT.of upd_same, rfl, _, _, rfl, _, _, rfl, rfl, rfl, yes (iteT ?_)⟩
      refine ⟨_, rfl, _, rfl, .int (g : Int), rfl, _, _, _, .int (r.getD g 0), rfl, rfl, SqT.of (sT _ _ (sm _ _ hr2)), atI_nat (by rw [List.getElem?_map, getD_at hrr.1]; rfl), _, _, rfl, rfl, .inr ?_, ?_⟩
      · have hm := hrr.2 (r.getD g 0) (List.mem_of_getElem? (getD_at hrr.1))
        exact ⟨by omega, by omega⟩
      · refine ⟨_, sT _ _ hD, ?_, same_late (sm.trans sT) nD, ?_⟩
        · rw [List.length_map, List.length_map]
          exact small1000 (Nat.le_trans (List.length_take_le _ _) (by omega))
        · rw [upd_same, List.take_add_one, zip_at hci hr1, List.map_append, List.map_append]
          rfl
    · refine .inl ⟨⟨_, _, sC, sP, .inl ?_⟩, ?_⟩
      · rw [List.length_map]
        omega
      · have e : (cs.zip ll).take i = cs.zip ll := List.take_of_length_le (by rw [List.length_zip]; omega)
        rw [e] at hD
        exact ⟨D, _, rfl, SqL.of hD, q H' sm⟩
def spNought : Sp := fun vs H Q _ => ∃ (a : Addr) (xs : List Int), vs = [.ref a] ∧ IntsAt H a xs ∧ xs.length ≤ 100 ∧ ∀ H', Same H H' → Q (.bl (zeroB xs)) H'
theorem ok_nought {f : Addr} {fd : FuncData} {k : Nat} (F : Fun K "is_nought" "is_nought" sIsNought f fd) (B : Bl mg) : FnOk P w K mg base CX0 (k + 1) f fd ["row"] spNought := by
  refine F.ok scNo (fun vs H Q E h => ?_) (fun cdv A outer s H vs Q E hr h => ?_)
  · obtain ⟨a, xs, rfl, _⟩ := h
    rfl
  · obtain ⟨a, xs, rfl, hA, hz, q⟩ := h
    refine ⟨_, (pss_one (ps_ret (pe_callB (cr_all rfl) (by rfl) B.all (by decide +kernel) (pa_cons (pe_lc (own := [("number", 1)]) (g := gName 1) (tt := tYes) rfl scNo.nd (pi_tup (pv 0))
        (blkOk_by (own := [("number", 1)]) (N := ["row", "number"]) (sc := defScope sIsNought) (by decide +kernel)) (fun _ _ _ _ _ => pg_name (i := 1) scNo.nd rfl (Or.inl rfl)) (fun _ _ _ _ _ => pts_nil)
        (fun _ _ _ _ _ => (pe_cmpR op_eq (pv 1) pe_int (nomark _)))) pa_nil)))), ?_⟩
    refine ⟨.ref a, rfl, a, rfl, ⟨_, SqT.of hA⟩, fun D nD => ?_⟩
    refine lc_tup (K := K) (a := a) (xs := xs.map V.int) (fun i H' => Same H H' ∧ H' D = some (.lst (((xs.take i).map fun n => decide (n = 0)).map V.bl))) ⟨same_new nD, upd_same⟩ (fun i H' _ hP => SqT.of (hA.same hP.1)) (fun i x H' hx ⟨sm, hD⟩ => ?_) (fun H' ⟨sm, hD⟩ => ?_)
    · obtain ⟨n, hn, rfl⟩ : ∃ n, xs[i]? = some n ∧ x = V.int n := by
        rw [List.getElem?_map] at hx
        cases e : xs[i]? with
        | none => rw [e] at hx; cases hx
        | some n => rw [e] at hx; exact ⟨n, rfl, (Option.some.inj hx).symm⟩
      refine ⟨rfl, yes (iteT ⟨.int n, rfl, rfl, _, hD, ?_, same_late sm nD, ?_⟩)⟩
      · rw [List.length_map, List.length_map]
        exact small1000 (Nat.le_trans (List.length_take_le' _ _) (by omega))
      · rw [upd_same, List.take_add_one, hn, List.map_append, List.map_append]
        have e : decide (V.int n = V.int 0) = decide (n = 0) := by
          by_cases c : n = 0
          · rw [decide_eq_true c, decide_eq_true (congrArg V.int c)]
          · rw [decide_eq_false c, decide_eq_false fun z => c (V.int.inj z)]
        show some (HO.lst (_ ++ [V.bl (decide (V.int n = V.int 0))])) = _
        rw [e]
        rfl
    · rw [List.length_map, List.take_length] at hD
      have := q H' sm
      unfold zeroB at this
      have e : (xs.map fun n => decide (n = 0)).all id = xs.all fun n => decide (n = 0) := by
        rw [List.all_map]
        rfl
      rw [← e] at this
      exact ⟨D, _, rfl, SqL.of hD, this⟩
/-- times, or what is taken, is small -/
def LeOk (k : Int) (ys : List Int) : Prop := (-1000 ≤ k ∧ k ≤ 1000) ∨ ∀ y ∈ ys, -1000000 ≤ y ∧ y ≤ 1000000
theorem LeOk.mul {k y : Int} {ys : List Int} (h : LeOk k ys) (hy : y ∈ ys) : CMul k y := h.elim (fun h => .inl ⟨by omega, by omega⟩) fun h => .inr (by have := h y hy; omega)
def spLess : Sp := fun vs H Q _ => ∃ (a b : Addr) (xs ys : List Int) (k : Int), vs = [.ref a, .ref b, .int k] ∧ IntsAt H a xs ∧ IntsAt H b ys ∧ xs.length = ys.length ∧ xs.length ≤ 100 ∧ LeOk k ys ∧ ∀ H' p, Same H H' → IntsAt H' p (subR xs ys k) → Q (.ref p) H'
theorem ok_less {f : Addr} {fd : FuncData} {k : Nat} {dvs : List V} (F : FunD K "less" "less" (defArgs sLess) (defBody sLess) (defScope sLess) dvs [] f fd) (B : Bl mg) (mz : mg "zip" = none) : FnOk P w K mg base CX0 (k + 1) f fd ["row", "other", "times"] spLess := by
  refine F.ok scLe (fun vs H Q E h => ?_) (fun cdv A outer s H vs Q E hr h => ?_)
  · obtain ⟨a, b, xs, ys, k, rfl, _⟩ := h
    rfl
  · obtain ⟨a, b, xs, ys, k, rfl, hA, hB, hl, hz, hk, q⟩ := h
    refine ⟨_, pss_one (ps_ret (pe_callTy call_tuple_of (by rfl) B.tuple (by decide +kernel) (pa_cons (pe_lc (own := [("number", 3), ("taken", 4)]) (g := gTup K 2 (gCons (gName 3) (gCons (gName 4) gNil))) (tt := tYes) rfl scLe.nd (pi_zipA (by rfl) mz (pa_cons (pv 0) (pa_cons (pv 1) pa_nil)))
        (blkOk_by (own := [("number", 3), ("taken", 4)]) (N := ["row", "other", "times", "number", "taken"]) (sc := defScope sLess) (by decide +kernel)) (fun _ _ _ _ _ => (pg_tup rfl (pgs_cons (pg_name (i := 3) scLe.nd rfl (Or.inl rfl)) (pgs_cons (pg_name (i := 4) scLe.nd rfl (Or.inl rfl)) pgs_nil)))) (fun _ _ _ _ _ => pts_nil)
        (fun _ _ _ _ _ => (pe_op op_sub (pv 3) (pe_op op_mul (pv 2) (pv 4))))) pa_nil))), ?_⟩
    refine ⟨.ref a, rfl, .ref b, rfl, a, b, _, _, rfl, .inr ⟨SqT.of hA, SqT.of hB, fun D nD => ?_⟩⟩
    refine ⟨fun i m H' => i + m = xs.length ∧ Same H H' ∧ H' D = some (.lst ((((xs.zip ys).take i).map fun q => q.1 - k * q.2).map V.int)), ⟨xs.length, by omega, same_new nD, upd_same⟩, fun i m H' hW => ?_⟩
    obtain ⟨em, sm, hD⟩ := hW
    have sA : SqT K H' a (xs.map V.int) := SqT.of (hA.same sm)
    have sB : SqT K H' b (ys.map V.int) := SqT.of (hB.same sm)
    by_cases hi : i < xs.length
    · have hx : xs[i]? = some (xs[i]'hi) := List.getElem?_eq_getElem hi
      have hy : ys[i]? = some (ys[i]'(by omega)) := List.getElem?_eq_getElem (by omega)
      have g1 : (xs.map V.int)[i]? = some (.int (xs[i]'hi)) := by rw [List.getElem?_map, hx]; rfl
      have g2 : (ys.map V.int)[i]? = some (.int (ys[i]'(by omega))) := by rw [List.getElem?_map, hy]; rfl
      refine .inr ⟨⟨_, _, _, _, sA, sB, g1, g2⟩, fun H2 => Same H H2 ∧ H2 D = some (.lst ((((xs.zip ys).take (i + 1)).map fun q => q.1 - k * q.2).map V.int)), fun H2 hN => ⟨m - 1, by omega, by omega, hN⟩, fun x H2 hyy => ?_⟩
      obtain ⟨T, x1, x2, rfl, nT, rfl, f1, f2⟩ := hyy
      have ex1 := Option.some.inj ((f1 _ sA).symm.trans g1)
      have ex2 := Option.some.inj ((f2 _ sB).symm.trans g2)
      subst ex1 ex2
      have sT := same_new (o := .tup [V.int (xs[i]'hi), V.int (ys[i]'(by omega))]) nT
      refine ⟨T, _, rfl, SqT.of upd_same, rfl, _, _, rfl, _, _, rfl, rfl, rfl, yes (iteT ?_)⟩
      refine ⟨_, rfl, .int k, rfl, _, rfl, k, _, rfl, rfl, hk.mul (List.getElem_mem _), _, _, rfl, rfl, _, sT _ _ hD, ?_, same_late (sm.trans sT) nD, ?_⟩
      · rw [List.length_map, List.length_map]
        exact small1000 (Nat.le_trans (List.length_take_le _ _) (by omega))
      · rw [upd_same, List.take_add_one, zipI_at hx hy, List.map_append, List.map_append]
        rfl
    · refine .inl ⟨⟨_, _, sA, sB, .inl ?_⟩, ?_⟩
      · rw [List.length_map]
        omega
      · have e : (xs.zip ys).take i = xs.zip ys := List.take_of_length_le (by rw [List.length_zip]; omega)
        rw [e] at hD
        exact ⟨D, _, rfl, .inl ⟨SqL.of hD, fun t nt => q _ t (sm.trans (same_new nt)) upd_same⟩⟩
def spMarks : Sp := fun vs H Q _ => ∃ (a : Addr) (r : List Int), vs = [.ref a] ∧ IntsAt H a r ∧ r.length ≤ 8 ∧ ∀ H', Same H H' → Q (.int (mkI r)) H'
theorem ok_marks {f : Addr} {fd : FuncData} {k : Nat} (F : Fun K "marks" "marks" sMarks f fd) (B : Bl mg) : FnOk P w K mg base CX0 (k + 1) f fd ["row"] spMarks := by
  refine F.ok scMk (fun vs H Q E h => ?_) (fun cdv A outer s H vs Q E hr h => ?_)
  · obtain ⟨a, r, rfl, _⟩ := h
    rfl
  · obtain ⟨a, r, rfl, hA, hz, q⟩ := h
    refine ⟨_, (pss_one (ps_ret (pe_callB (cr_sum rfl) (by rfl) B.sum (by decide +kernel) (pa_cons (pe_lc (own := [("place", 2), ("number", 1)]) (g := gTup K 2 (gCons (gName 2) (gCons (gName 1) gNil))) rfl scMk.nd (pi_enumT (by rfl) B.enumerate (pa_cons (pv 0) pa_nil))
        (blkOk_by (own := [("place", 2), ("number", 1)]) (N := ["row", "number", "place"]) (sc := defScope sMarks) (by decide +kernel)) (fun _ _ _ _ _ => (pg_tup rfl (pgs_cons (pg_name (i := 2) scMk.nd rfl (Or.inl rfl)) (pgs_cons (pg_name (i := 1) scMk.nd rfl (Or.inl rfl)) pgs_nil)))) (fun _ _ _ _ _ => pts_one (pt_cmpR op_ne (pv 1) pe_int (nomark _)))
        (fun _ _ _ _ _ => (pe_op op_shl pe_int (pv 2)))) pa_nil)))), ?_⟩
    refine ⟨.ref a, rfl, a, _, rfl, SqT.of hA, fun D nD => ?_⟩
    refine lc_it (walk_enumT (K := K) (a := a) (xs := r.map V.int)) (fun i H' => Same H H' ∧ H' D = some (.lst ((mkL r i).map V.int))) ⟨same_new nD, upd_same⟩ (fun i H' _ hP => SqT.of (hA.same hP.1)) (fun i x H2 H3 hi ⟨sm, hD⟩ hY => ?_) (fun H2 ⟨sm, hD⟩ => ?_)
    · obtain ⟨T0, x1, x2, rfl, nT, rfl, e1, e2⟩ := hY
      cases Option.some.inj e1
      rw [List.length_map] at hi
      have hgi : r[i]? = some (r.getD i 0) := by
        rw [List.getElem?_eq_getElem hi, List.getD_eq_getElem?_getD, List.getElem?_eq_getElem hi]
        rfl
      have ex2 : x2 = .int (r.getD i 0) := by
        have e2' : (r.map V.int)[i]? = some x2 := e2
        rw [List.getElem?_map, hgi] at e2'
        exact (Option.some.inj e2').symm
      subst ex2
      have sT := same_new (o := .tup [.int (i : Nat), .int (r.getD i 0)]) nT
      have hD3 := sT _ _ hD
      have hml := mkL_len (r := r) (i := i)
      refine ⟨T0, _, rfl, SqT.of upd_same, rfl, _, _, rfl, _, _, rfl, rfl, rfl, ?_⟩
      refine ⟨.int (r.getD i 0), rfl, rfl, _, rfl, ite2 (fun c1 => ?_) (fun c1 => ?_)⟩
      · have nz : r.getD i 0 ≠ 0 := fun z => by
          have c1' : (!decide (V.int (r.getD i 0) = V.int 0)) = true := c1
          rw [z, decide_eq_true rfl] at c1'
          cases c1'
        refine ⟨.int (i : Nat), rfl, 1, _, rfl, rfl, ?_, _, hD3, by rw [List.length_map]; exact small1000 (by omega), same_late (sm.trans sT) nD, ?_⟩
        · have : i = 0 ∨ i = 1 ∨ i = 2 ∨ i = 3 ∨ i = 4 ∨ i = 5 ∨ i = 6 ∨ i = 7 := by omega
          rcases this with e | e | e | e | e | e | e | e <;> rw [e] <;> exact ⟨by decide, by decide, by decide⟩
        · rw [upd_same, mkL_more, if_pos nz, List.map_append]
          rfl
      · have zz : ¬ r.getD i 0 ≠ 0 := fun nz => by
          have c1' : ¬ (!decide (V.int (r.getD i 0) = V.int 0)) = true := c1
          rw [decide_eq_false (fun w => nz (V.int.inj w))] at c1'
          exact c1' rfl
        refine ⟨sm.trans sT, ?_⟩
        rw [mkL_more, if_neg zz, List.append_nil]
        exact hD3
    · rw [List.length_map] at hD
      exact ⟨D, _, rfl, SqL.of hD, q H2 sm⟩
def spAbove : Sp := fun vs H Q _ => ∃ (a : Addr) (xs : List Int), vs = [.ref a] ∧ IntsAt H a xs ∧ xs.length ≤ 100 ∧ ∀ H' p, Same H H' → IntsAt H' p (xs.map fun n => if n < 0 then 0 else n) → Q (.ref p) H'
theorem ok_above {f : Addr} {fd : FuncData} {k : Nat} (F : Fun K "above" "above" sAbove f fd) (B : Bl mg) (mx : mg "max" = none) : FnOk P w K mg base CX0 (k + 1) f fd ["row"] spAbove := by
  refine F.ok scAb (fun vs H Q E h => ?_) (fun cdv A outer s H vs Q E hr h => ?_)
  · obtain ⟨a, xs, rfl, _⟩ := h
    rfl
  · obtain ⟨a, xs, rfl, ha, hz, q⟩ := h
    refine ⟨_, (pss_one (ps_ret (pe_callTy call_tuple_of (by rfl) B.tuple (by decide +kernel) (pa_cons (pe_lc (own := [("number", 1)]) (g := gName 1) (tt := tYes) rfl scAb.nd (pi_tup (pv 0))
        (blkOk_by (own := [("number", 1)]) (N := ["row", "number"]) (sc := defScope sAbove) (by decide +kernel)) (fun _ _ _ _ _ => pg_name (i := 1) scAb.nd rfl (Or.inl rfl)) (fun _ _ _ _ _ => pts_nil)
        (fun _ _ _ _ _ => (pe_callB (call_max2 rfl) (by rfl) mx (by decide +kernel) (pa_cons (pv 1) (pa_cons pe_int pa_nil))))) pa_nil)))), ?_⟩
    refine ⟨.ref a, rfl, a, rfl, ⟨_, SqT.of ha⟩, fun D nD => ?_⟩
    refine lc_tup (K := K) (a := a) (xs := xs.map V.int) (fun i H' => Same H H' ∧ H' D = some (.lst (((xs.map fun n => if n < 0 then 0 else n).take i).map V.int))) ⟨same_new nD, upd_same⟩ (fun i H' _ hP => SqT.of (ha.same hP.1)) (fun i x H' hx ⟨sm, hD⟩ => ?_) (fun H' ⟨sm, hD⟩ => ?_)
    · obtain ⟨n, hn, rfl⟩ : ∃ n, xs[i]? = some n ∧ x = V.int n := by
        rw [List.getElem?_map] at hx
        cases e : xs[i]? with
        | none => rw [e] at hx; cases hx
        | some n => rw [e] at hx; exact ⟨n, rfl, (Option.some.inj hx).symm⟩
      refine ⟨rfl, yes (iteT ⟨.int n, rfl, n, 0, rfl, ?_⟩)⟩
      have e0 : (if (0 : Int) > n then (0 : Int) else n) = if n < 0 then 0 else n := rfl
      rw [e0]
      exact turn_fn (xs := xs.map fun n => if n < 0 then 0 else n) nD (by rw [List.getElem?_map, hn]; rfl) (by rw [List.length_map]; omega) sm hD (Same.refl _)
    · rw [List.length_map, List.take_of_length_le (by rw [List.length_map]; exact Nat.le_refl _)] at hD
      exact ⟨D, _, rfl, .inl ⟨SqL.of hD, fun z nz => q _ z (sm.trans (same_new nz)) upd_same⟩⟩
end
end HL

set_option pp.maxSteps 3000
namespace HL
open PySem PySem.Spec PyProof.Rows L2
open C8 (pss_cut)
open RZ (pi_zipA ItzT iZipA)
open BL (abv ngR askL askLi fitB vec)
/-! ### a step in the heap -/
abbrev sStepInit : Stmt := inClass (topS 32) 0
theorem scI : FnScope ["self", "change", "number", "place"] ["self", "change"] (defScope sStepInit) := ⟨rfl, rfl, rfl, by decide +kernel, rfl, by decide +kernel, by decide +kernel⟩
theorem scAF : FnScope ["row", "asks", "place", "number"] ["row", "asks"] (defScope sAsksFit) := ⟨rfl, rfl, rfl, by decide +kernel, rfl, by decide +kernel, by decide +kernel⟩
theorem scFF : FnScope ["row", "steps", "step"] ["row", "steps"] (defScope sFitting) := ⟨rfl, rfl, rfl, by decide +kernel, rfl, by decide +kernel, by decide +kernel⟩
theorem scSt : FnScope ["load", "steps", "row", "step", "times", "number", "place"] ["load", "steps"] (defScope sSettled) := ⟨rfl, rfl, rfl, by decide +kernel, rfl, by decide +kernel, by decide +kernel⟩
def stF (c l : Addr) (t g : Int) : List (Str × V) := [("change", .ref c), ("asks", .ref l), ("takes", .int t), ("gives", .int g)]
theorem f2_eq (c l : Addr) : putF "asks" (.ref l) [("change", V.ref c)] = ([("change", V.ref c), ("asks", V.ref l)] : List (Str × V)) := by
  show (if ("change" : Str) = "asks" then [(("change" : Str), V.ref l)] else (("change" : Str), V.ref c) :: putF "asks" (V.ref l) []) = _
  rw [if_neg (by decide +kernel)]
  rfl
theorem f3_eq (c l : Addr) (t : Int) : putF "takes" (.int t) [("change", V.ref c), ("asks", V.ref l)] = ([("change", V.ref c), ("asks", V.ref l), ("takes", V.int t)] : List (Str × V)) := by
  show (if ("change" : Str) = "takes" then _ else (("change" : Str), V.ref c) :: (if ("asks" : Str) = "takes" then _ else (("asks" : Str), V.ref l) :: putF "takes" (V.int t) [])) = _
  rw [if_neg (by decide +kernel), if_neg (by decide +kernel)]
  rfl
theorem f4_eq (c l : Addr) (t g : Int) : putF "gives" (.int g) [("change", V.ref c), ("asks", V.ref l), ("takes", V.int t)] = stF c l t g := by
  show (if ("change" : Str) = "gives" then _ else (("change" : Str), V.ref c) :: (if ("asks" : Str) = "gives" then _ else (("asks" : Str), V.ref l) :: (if ("takes" : Str) = "gives" then _ else (("takes" : Str), V.int t) :: putF "gives" (V.int g) []))) = _
  rw [if_neg (by decide +kernel), if_neg (by decide +kernel), if_neg (by decide +kernel)]
  rfl
theorem stF_change {c l : Addr} {t g : Int} : (stF c l t g).lookup ("change" : Str) = some (.ref c) := List.lookup_cons_self
theorem stF_asks {c l : Addr} {t g : Int} : (stF c l t g).lookup ("asks" : Str) = some (.ref l) := by
  unfold stF
  rw [List.lookup_cons, show (("asks" : Str) == "change") = false by decide +kernel]
  exact List.lookup_cons_self
theorem stF_takes {c l : Addr} {t g : Int} : (stF c l t g).lookup ("takes" : Str) = some (.int t) := by
  unfold stF
  rw [List.lookup_cons, show (("takes" : Str) == "change") = false by decide +kernel]
  show List.lookup ("takes" : Str) [("asks", V.ref l), ("takes", V.int t), ("gives", V.int g)] = _
  rw [List.lookup_cons, show (("takes" : Str) == "asks") = false by decide +kernel]
  exact List.lookup_cons_self
theorem stF_gives {c l : Addr} {t g : Int} : (stF c l t g).lookup ("gives" : Str) = some (.int g) := by
  unfold stF
  rw [List.lookup_cons, show (("gives" : Str) == "change") = false by decide +kernel]
  show List.lookup ("gives" : Str) [("asks", V.ref l), ("takes", V.int t), ("gives", V.int g)] = _
  rw [List.lookup_cons, show (("gives" : Str) == "asks") = false by decide +kernel]
  show List.lookup ("gives" : Str) [("takes", V.int t), ("gives", V.int g)] = _
  rw [List.lookup_cons, show (("gives" : Str) == "takes") = false by decide +kernel]
  exact List.lookup_cons_self
/-- a step's object: its change, what it asks, what it takes and gives -/
def StepIn (C : Addr) (H : Hp) (v : V) (s : List Int) : Prop := ∃ (p dx c l : Addr) (as : List Addr), v = .ref p ∧ H p = some (.ins C dx (stF c l (mkI (abv s)) (mkI (abv (ngR s))))) ∧ IntsAt H c s ∧ H l = some (.lst (as.map V.ref)) ∧ Rows H as (askL s)
theorem StepIn.same {C : Addr} {H H' : Hp} {v : V} {s : List Int} (h : StepIn C H v s) (m : Same H H') : StepIn C H' v s := by
  obtain ⟨p, dx, c, l, as, h1, h2, h3, h4, h5⟩ := h
  exact ⟨p, dx, c, l, as, h1, m _ _ h2, h3.same m, m _ _ h4, h5.same m⟩
def StepsIn (C : Addr) (H : Hp) (vs : List V) (ss : List (List Int)) : Prop := vs.length = ss.length ∧ ∀ (i : Nat) (v : V) (s : List Int), vs[i]? = some v → ss[i]? = some s → StepIn C H v s
theorem StepsIn.same {C : Addr} {H H' : Hp} {vs : List V} {ss : List (List Int)} (h : StepsIn C H vs ss) (m : Same H H') : StepsIn C H' vs ss := ⟨h.1, fun i v s a b => (h.2 i v s a b).same m⟩
theorem StepsIn.at {C : Addr} {H : Hp} {vs : List V} {ss : List (List Int)} (h : StepsIn C H vs ss) {i : Nat} {v : V} (e : vs[i]? = some v) : ∃ s, ss[i]? = some s ∧ StepIn C H v s := by
  have hi : i < ss.length := by
    rw [← h.1]
    exact (List.getElem?_eq_some_iff.mp e).1
  exact ⟨ss[i], List.getElem?_eq_getElem hi, h.2 i v _ e (List.getElem?_eq_getElem hi)⟩
theorem StepsIn.more {C : Addr} {H : Hp} {vs : List V} {ss : List (List Int)} {v : V} {s : List Int} (h : StepsIn C H vs ss) (x : StepIn C H v s) : StepsIn C H (vs ++ [v]) (ss ++ [s]) := by
  refine ⟨by rw [List.length_append, List.length_append, h.1]; rfl, fun i v' s' e1 e2 => ?_⟩
  by_cases c : i < vs.length
  · rw [List.getElem?_append_left c] at e1
    rw [List.getElem?_append_left (by rw [← h.1]; exact c)] at e2
    exact h.2 i v' s' e1 e2
  · rw [List.getElem?_append_right (by omega)] at e1
    rw [List.getElem?_append_right (by rw [← h.1]; omega)] at e2
    rw [← h.1] at e2
    have hi : i - vs.length = 0 := by
      have := (List.getElem?_eq_some_iff.mp e1).1
      rw [List.length_singleton] at this
      omega
    rw [hi] at e1 e2
    cases e1
    cases e2
    exact x
/-- the class as it stands -/
structure StepTxt (K : PySem.W.Frag) (mg : Str → Option Value) (C : Addr) : Prop where
  cl : Cls K C
  nC : NoAttr K C "change"
  nA : NoAttr K C "asks"
  nT : NoAttr K C "takes"
  nG : NoAttr K C "gives"
  mgC : mg "Step" = some (.ref C)
theorem lst_late {H H' : Hp} {D : Addr} {o : HO} (s : Same H H') (nD : H D = none) : Same H (upd H' D o) := same_late s nD
section
variable {P : Program} {w : World} {K : PySem.W.Frag} {mg : Str → Option Value} {base : Heap}
def spStepInit (C : Addr) : Sp := fun vs H Q _ => ∃ (p dx c : Addr) (s : List Int), vs = [.ref p, .ref c] ∧ H p = some (.ins C dx []) ∧ IntsAt H c s ∧ s.length ≤ 8 ∧
  ∀ (H' : Hp) (l : Addr) (as : List Addr), (∀ b o, H b = some o → b ≠ p → H' b = some o) → H' p = some (.ins C dx (stF c l (mkI (abv s)) (mkI (abv (ngR s))))) → H' l = some (.lst (as.map V.ref)) → Rows H' as (askL s) → H l = none → Q .non H'
theorem ok_stepInit {f C : Addr} {fd : FuncData} (F : Fun K "__init__" "Step.__init__" sStepInit f fd) (T : StepTxt K mg C) (B : Bl mg) (CM : Cal P w K mg base CX0 1 "marks" ["row"] spMarks) (CA : Cal P w K mg base CX0 1 "above" ["row"] spAbove) (CO : Cal P w K mg base CX0 1 "opposite" ["row"] spOpp) :
    FnOk P w K mg base CX0 2 f fd ["self", "change"] (spStepInit C) := by
  obtain ⟨fM, fdM, GM, gM, kM, bM⟩ := CM.ex
  obtain ⟨fA, fdA, GA, gA, kA, bA⟩ := CA.ex
  obtain ⟨fO, fdO, GO, gO, kO, bO⟩ := CO.ex
  refine F.ok scI (fun vs H Q E h => ?_) (fun cdv A outer s H vs Q E hr h => ?_)
  · obtain ⟨p, dx, c, s, rfl, _⟩ := h
    rfl
  · obtain ⟨p, dx, c, s, rfl, hp, hc, hz, q⟩ := h
    refine ⟨_, pss_cons (ps_fld (pv 0) (pv 1) rfl)
      (pss_cons (ps_fld (pv 0) (pe_lc (own := [("place", 3), ("number", 2)]) (g := gTup K 2 (gCons (gName 3) (gCons (gName 2) gNil))) rfl scI.nd (pi_enumT (by rfl) B.enumerate (pa_cons (pv 1) pa_nil))
        (blkOk_by (own := [("place", 3), ("number", 2)]) (N := ["self", "change", "number", "place"]) (sc := defScope sStepInit) (by decide +kernel)) (fun _ _ _ _ _ => (pg_tup rfl (pgs_cons (pg_name (i := 3) scI.nd rfl (Or.inl rfl)) (pgs_cons (pg_name (i := 2) scI.nd rfl (Or.inl rfl)) pgs_nil)))) (fun _ _ _ _ _ => pts_one (pt_cmpR op_gt (pv 2) pe_int (nomark _)))
        (fun _ _ _ _ _ => (pe_tup (pa_cons (pv 3) (pa_cons (pv 2) pa_nil))))) rfl)
      (pss_cons (ps_fld (pv 0) (pe_call GM (hr.mono (by decide)) (by rfl) gM kM bM .nil pass0 (pa_cons (pe_call GA (hr.mono (by decide)) (by rfl) gA kA bA .nil pass0 (pa_cons (pv 1) pa_nil)) pa_nil)) rfl)
      (pss_one (ps_fld (pv 0) (pe_call GM (hr.mono (by decide)) (by rfl) gM kM bM .nil pass0 (pa_cons (pe_call GA (hr.mono (by decide)) (by rfl) gA kA bA .nil pass0 (pa_cons (pe_call GO (hr.mono (by decide)) (by rfl) gO kO bO .nil pass0 (pa_cons (pv 1) pa_nil)) pa_nil)) pa_nil)) rfl)))), ?_⟩
    have npc : c ≠ p := ne_of hc hp (fun z => by cases z)
    refine ⟨.ref c, rfl, .ref p, rfl, p, C, dx, [], rfl, hp, T.cl, T.nC, (by show 0 < 1000; decide), ?_⟩
    -- asks
    have hc1 : IntsAt (upd H p (.ins C dx [("change", .ref c)])) c s := by
      unfold IntsAt
      rw [upd_ne npc]
      exact hc
    have hp1 : (upd H p (.ins C dx [("change", .ref c)])) p = some (.ins C dx [("change", .ref c)]) := upd_same
    have k1 : ∀ b o, H b = some o → b ≠ p → (upd H p (.ins C dx [("change", .ref c)])) b = some o := fun b o e hb => by rw [upd_ne hb]; exact e
    have eq1 : upd H p (HO.ins C dx (putF ("change" : Str) (V.ref c) [])) = upd H p (.ins C dx [("change", .ref c)]) := rfl
    rw [eq1]
    generalize upd H p (HO.ins C dx [("change", V.ref c)]) = H1 at hc1 hp1 k1
    refine ⟨.ref c, rfl, c, _, rfl, SqT.of hc1, fun D nD => ?_⟩
    refine lc_it (walk_enumT (K := K) (a := c) (xs := s.map V.int)) (fun i H' => Same H1 H' ∧ ∃ as : List Addr, H' D = some (.lst (as.map V.ref)) ∧ Rows H' as (askLi s i)) ⟨same_new nD, [], upd_same, True.intro⟩ (fun i H' _ hP => SqT.of (hc1.same hP.1)) (fun i x H2 H3 hi ⟨sm, as, hD, hR⟩ hY => ?_) (fun H2 ⟨sm, as, hD, hR⟩ => ?_)
    · obtain ⟨T0, x1, x2, rfl, nT, rfl, e1, e2⟩ := hY
      cases Option.some.inj e1
      rw [List.length_map] at hi
      have ex2 : x2 = .int (s.getD i 0) := by
        have e2' : (s.map V.int)[i]? = some x2 := e2
        rw [List.getElem?_map, getD_at hi] at e2'
        exact (Option.some.inj e2').symm
      subst ex2
      have sT := same_new (o := .tup [.int (i : Nat), .int (s.getD i 0)]) nT
      have hD3 := sT _ _ hD
      refine ⟨T0, _, rfl, SqT.of upd_same, rfl, _, _, rfl, _, _, rfl, rfl, rfl, ?_⟩
      refine ⟨.int (s.getD i 0), rfl, _, _, rfl, rfl, _, rfl, ite2 (fun c1 => ?_) (fun c1 => ?_)⟩
      · have ps : 0 < s.getD i 0 := of_decide_eq_true c1
        refine ⟨.int (i : Nat), rfl, .int (s.getD i 0), rfl, sz_2 _ _, fun t nt => ?_⟩
        have st := same_new (o := .tup [.int (i : Nat), .int (s.getD i 0)]) nt
        have hl : as.length ≤ i := by rw [hR.len]; exact BL.askLi_len
        refine ⟨_, st _ _ hD3, by rw [List.length_map]; exact small1000 (by omega), same_late (sm.trans (sT.trans st)) nD, as ++ [t], ?_, ?_⟩
        · rw [upd_same, List.map_append]
          rfl
        · rw [BL.askLi_more, if_pos ps]
          refine Rows.app ?_ ⟨?_, True.intro⟩
          · refine ((hR.same sT).same st).mono fun a xs e => ?_
            rw [upd_ne (ne_of e (st _ _ hD3) (fun z => by cases z))]
            exact e
          · rw [upd_ne (ne_of (H := upd (upd H2 T0 (.tup [.int (i : Nat), .int (s.getD i 0)])) t (.tup [.int (i : Nat), .int (s.getD i 0)])) upd_same (st _ _ hD3) (fun z => by cases z))]
            exact upd_same
      · have ps : ¬ 0 < s.getD i 0 := fun z => c1 (decide_eq_true z)
        refine ⟨sm.trans sT, as, hD3, ?_⟩
        rw [BL.askLi_more, if_neg ps, List.append_nil]
        exact hR.same sT
    · rw [List.length_map] at hR
      have npD : D ≠ p := fun z => by rw [z, hp1] at nD; cases nD
      refine ⟨.ref p, rfl, p, C, dx, _, rfl, sm _ _ hp1, T.cl, T.nA, (by show 1 < 1000; decide), ?_⟩
      rw [f2_eq]
      -- takes
      have up : ∀ {Hx : Hp} {o : HO} {Hy : Hp}, Same Hx Hy → ∀ b o', Hx b = some o' → b ≠ p → (upd Hy p o) b = some o' := fun m b o' e hb => by rw [upd_ne hb]; exact m _ _ e
      have hcA : IntsAt (upd H2 p (.ins C dx [("change", .ref c), ("asks", .ref D)])) c s := up sm c _ hc1 npc
      refine ⟨.ref c, rfl, c, s, rfl, hcA, by omega, fun H3 pA s3 hA => ⟨pA, _, rfl, hA, by rw [List.length_map]; exact hz, fun H4 s4 => ?_⟩⟩
      have hp4 : H4 p = some (.ins C dx [("change", .ref c), ("asks", .ref D)]) := s4 _ _ (s3 _ _ upd_same)
      refine ⟨.ref p, rfl, p, C, dx, _, rfl, hp4, T.cl, T.nT, (by show 2 < 1000; decide), ?_⟩
      rw [f3_eq]
      have s34 := s3.trans s4
      have hcB : IntsAt (upd H4 p (.ins C dx [("change", .ref c), ("asks", .ref D), ("takes", .int (mkI (abv s)))])) c s := up s34 c _ hcA npc
      -- gives
      refine ⟨.ref c, rfl, c, s, rfl, hcB, by omega, fun H5 pO s5 hO => ⟨pO, _, rfl, hO, by rw [List.length_map]; omega, fun H6 pB s6 hB => ⟨pB, _, rfl, hB, by rw [List.length_map, List.length_map]; exact hz, fun H7 s7 => ?_⟩⟩⟩
      have s57 := s5.trans (s6.trans s7)
      have hp7 : H7 p = some (.ins C dx [("change", .ref c), ("asks", .ref D), ("takes", .int (mkI (abv s)))]) := s57 _ _ upd_same
      refine ⟨.ref p, rfl, p, C, dx, _, rfl, hp7, T.cl, T.nG, (by show 3 < 1000; decide), ?_⟩
      rw [f4_eq]
      refine q _ D as (fun b o e hb => ?_) upd_same ?_ ?_ ?_
      · exact up s57 b o (up s34 b o (up sm b o (k1 b o e hb) hb) hb) hb
      · exact up s57 D _ (up s34 D _ (up (Same.refl _) D _ hD npD) npD) npD
      · refine hR.mono fun a xs e => ?_
        have ne : a ≠ p := ne_of e (sm _ _ hp1) (fun z => by cases z)
        exact up s57 a _ (up s34 a _ (up (Same.refl _) a _ e ne) ne) ne
      · cases hn : H D with
        | none => rfl
        | some o => rw [k1 D o hn npD] at nD; cases nD
def spAsksFit : Sp := fun vs H Q _ => ∃ (x l : Addr) (xs : List Int) (as : List Addr) (aa : List (List Int)), vs = [.ref x, .ref l] ∧ IntsAt H x xs ∧ H l = some (.lst (as.map V.ref)) ∧ Rows H as aa ∧ (∀ a ∈ aa, ∃ (j : Nat) (z : Int), a = [(j : Int), z] ∧ j < xs.length) ∧ Q (.bl (fitB xs aa)) H
theorem ok_asksFit {f : Addr} {fd : FuncData} {k : Nat} (F : Fun K "asks_fit" "asks_fit" sAsksFit f fd) : FnOk P w K mg base CX0 (k + 1) f fd ["row", "asks"] spAsksFit := by
  refine F.ok scAF (fun vs H Q E h => ?_) (fun cdv A outer s H vs Q E hr h => ?_)
  · obtain ⟨x, l, xs, as, aa, rfl, _⟩ := h
    rfl
  · obtain ⟨x, l, xs, as, aa, rfl, hx, hl, hR, hA, q⟩ := h
    refine ⟨_, (pss_cons (ps_for PassesOwn.never rfl (pi_list (pv 1)) (pg_tup rfl (pgs_cons (pg_name (i := 2) scAF.nd rfl (.inl rfl)) (pgs_cons (pg_name (i := 3) scAF.nd rfl (.inl rfl)) pgs_nil)))
      (pss_one (ps_if (pt_cmpR op_lt (pe_ix ix_tup (pv 0) (pv 2) (fun _ _ => rfl)) (pv 3) (nomark _)) (pss_one (ps_ret pe_bl)) pss_nil)))
      (pss_one (ps_ret pe_bl))), ?_⟩
    refine ⟨.ref l, rfl, l, rfl, ⟨_, SqL.of hl⟩, for_list (K := K) (a := l) (xs := as.map V.ref) (fun i σ H' => H' = H ∧ (∃ y2 y3, σ = [some (.ref x), some (.ref l), y2, y3]) ∧ ∀ (j : Nat) (a : List Int), j < i → aa[j]? = some a → a.getD 1 0 ≤ xs.getD (a.getD 0 0).toNat 0)
      ⟨rfl, ⟨none, none, rfl⟩, fun j a h => absurd h (Nat.not_lt_zero _)⟩ (fun i σ H' _ ⟨e, _⟩ => by rw [e]; exact SqL.of hl) ?_ ?_⟩
    · rintro i y σ H' hy ⟨rfl, ⟨y2, y3, rfl⟩, ih⟩
      obtain ⟨ai, hai, rfl⟩ : ∃ ai, as[i]? = some ai ∧ y = V.ref ai := by
        rw [List.getElem?_map] at hy
        cases e : as[i]? with
        | none => rw [e] at hy; cases hy
        | some z => rw [e] at hy; exact ⟨z, rfl, (Option.some.inj hy).symm⟩
      obtain ⟨a, ha1, ha2⟩ := hR.at hai
      obtain ⟨j, z, rfl, hj⟩ := hA a (List.mem_of_getElem? ha1)
      refine ⟨ai, _, rfl, SqT.of ha2, rfl, _, _, rfl, _, _, rfl, rfl, ?_⟩
      refine ⟨.ref x, rfl, .int (j : Int), rfl, x, _, _, _, rfl, rfl, SqT.of hx, atIT hj, .int z, rfl, _, _, rfl, rfl, _, rfl, ite2 (fun c => ?_) (fun c => ?_)⟩
      · have lt : xs.getD j 0 < z := of_decide_eq_true c
        have e : fitB xs aa = false := by
          cases e : fitB xs aa with
          | false => rfl
          | true =>
            have := List.all_eq_true.mp e _ (List.mem_of_getElem? ha1)
            have h2 : z ≤ xs.getD ((j : Int)).toNat 0 := of_decide_eq_true this
            rw [Int.toNat_natCast] at h2
            omega
        rw [e] at q
        exact q
      · have ge : ¬ xs.getD j 0 < z := fun h => c (decide_eq_true h)
        refine ⟨rfl, ⟨_, _, rfl⟩, fun j' a' h' e' => ?_⟩
        by_cases cj : j' < i
        · exact ih j' a' cj e'
        · have : j' = i := by omega
          subst this
          rw [ha1] at e'
          cases e'
          show z ≤ xs.getD ((j : Int)).toNat 0
          rw [Int.toNat_natCast]
          omega
    · rintro σ H' ⟨rfl, ⟨y2, y3, rfl⟩, ih⟩
      have e : fitB xs aa = true := by
        refine List.all_eq_true.mpr fun a ha => ?_
        obtain ⟨j, hj, e⟩ := List.mem_iff_getElem.mp ha
        refine decide_eq_true (ih j a (by rw [List.length_map, hR.len]; exact hj) ?_)
        rw [List.getElem?_eq_getElem hj, e]
      rw [e] at q
      exact q
theorem ask_ok {s xs : List Int} (h : s.length = xs.length) : ∀ a ∈ askL s, ∃ (j : Nat) (z : Int), a = [(j : Int), z] ∧ j < xs.length := fun a ha => by
  obtain ⟨j, h1, _, e⟩ := BL.askL_mem.mp ha
  exact ⟨j, _, e, by omega⟩
def spFitting (C : Addr) : Sp := fun vs H Q _ => ∃ (x a : Addr) (xs : List Int) (us : List V) (ss : List (List Int)), vs = [.ref x, .ref a] ∧ IntsAt H x xs ∧ H a = some (.lst us) ∧ StepsIn C H us ss ∧ (∀ s ∈ ss, s.length = xs.length) ∧
  ((∀ s ∈ ss, fitB xs (askL s) = false) → Q .non H) ∧ ∀ (i : Nat) (v : V) (s : List Int), us[i]? = some v → ss[i]? = some s → fitB xs (askL s) = true → Q v H
theorem ok_fitting {f C : Addr} {fd : FuncData} (F : Fun K "first_fitting" "first_fitting" sFitting f fd) (T : StepTxt K mg C) (CA : Cal P w K mg base CX0 1 "asks_fit" ["row", "asks"] spAsksFit) : FnOk P w K mg base CX0 2 f fd ["row", "steps"] (spFitting C) := by
  obtain ⟨fA, fdA, GA, gA, kA, bA⟩ := CA.ex
  refine F.ok scFF (fun vs H Q E h => ?_) (fun cdv A outer s H vs Q E hr h => ?_)
  · obtain ⟨x, a, xs, us, ss, rfl, _⟩ := h
    rfl
  · obtain ⟨x, a, xs, us, ss, rfl, hx, ha, hS, hn, q0, q1⟩ := h
    refine ⟨_, (pss_cons (ps_for PassesOwn.never rfl (pi_list (pv 1)) (pg_name (i := 2) scFF.nd rfl (.inl rfl))
      (pss_one (ps_if (pt_val (pe_call GA (hr.mono (by decide)) (by rfl) gA kA bA .nil pass0 (pa_cons (pv 0) (pa_cons (pe_fld (pv 2) rfl) pa_nil)))) (pss_one (ps_ret (pv 2))) pss_nil)))
      (pss_one (ps_ret pe_non))), ?_⟩
    refine ⟨.ref a, rfl, a, rfl, ⟨_, SqL.of ha⟩, for_list (K := K) (a := a) (xs := us) (fun i σ H' => H' = H ∧ (∃ y2, σ = [some (.ref x), some (.ref a), y2]) ∧ ∀ (j : Nat) (s : List Int), j < i → ss[j]? = some s → fitB xs (askL s) = false)
      ⟨rfl, ⟨none, rfl⟩, fun j a h => absurd h (Nat.not_lt_zero _)⟩ (fun i σ H' _ ⟨e, _⟩ => by rw [e]; exact SqL.of ha) ?_ ?_⟩
    · rintro i y σ H' hy ⟨rfl, ⟨y2, rfl⟩, ih⟩
      obtain ⟨s, hs1, p, dx, c, l, as, rfl, hp, hc, hl, hR⟩ := hS.at hy
      have hlen := hn s (List.mem_of_getElem? hs1)
      refine ⟨.ref x, rfl, .ref p, rfl, p, C, dx, _, _, rfl, hp, T.cl, T.nA, stF_asks, x, l, xs, as, _, rfl, hx, hl, hR, ask_ok hlen, _, rfl, ite2 (fun c => ?_) (fun c => ?_)⟩
      · exact ⟨.ref p, rfl, q1 i _ s hy hs1 c⟩
      · refine ⟨rfl, ⟨_, rfl⟩, fun j s' h' e' => ?_⟩
        by_cases cj : j < i
        · exact ih j s' cj e'
        · have : j = i := by omega
          subst this
          rw [hs1] at e'
          cases e'
          exact Bool.eq_false_iff.mpr c
    · rintro σ H' ⟨rfl, ⟨y2, rfl⟩, ih⟩
      refine q0 fun s hs => ?_
      obtain ⟨j, hj, e⟩ := List.mem_iff_getElem.mp hs
      exact ih j s (by rw [hS.1]; exact hj) (by rw [List.getElem?_eq_getElem hj, e])
end
end HL

set_option pp.maxSteps 3000
namespace HL
open PySem PySem.Spec PyProof.Rows L2
open C8 (pss_cut)
open RZ (pi_zipA ItzT iZipA)
open BL (abv ngR askL askLi fitB vec RowOk StR inS St1 muv fit_iff step_pos row_step)
section
variable {P : Program} {w : World} {K : PySem.W.Frag} {mg : Str → Option Value} {base : Heap}
def CalLess (P : Program) (w : World) (K : PySem.W.Frag) (mg : Str → Option Value) (base : Heap) : Prop := ∃ (f : Addr) (fd : FuncData) (t : Tok), FnOk P w K mg base CX0 1 f fd ["row", "other", "times"] spLess ∧ mg "less" = some (.ref f) ∧ PySem.W.keepIn K (.ref f) = true ∧ Binds K fd ["row", "other", "times"] [.int 1 t]
def spSettled (C : Addr) : Sp := fun vs H Q _ => ∃ (x a : Addr) (xs : List Int) (us : List V) (ss ll : List (List Int)) (b ws : List Int), vs = [.ref x, .ref a] ∧ IntsAt H x xs ∧ H a = some (.lst us) ∧ StepsIn C H us ss ∧ St1 ll b ws ∧ RowOk ll b xs ∧ (∀ s ∈ ss, StR ll b ws s) ∧ ll.length + b.length ≤ 8 ∧
  ∀ H' z zs, Same H H' → IntsAt H' z zs → RowOk ll b zs → BL.Rt (inS ss) (vec xs) (vec zs) → (∀ s ∈ ss, ¬ BL.Fit (vec s) (vec zs)) → Q (.ref z) H'
theorem div_fit {m x s : Int} (h : m ≤ x / s) (p : 0 < s) : m * s ≤ x := by
  have h1 := Int.mul_le_mul_of_nonneg_right h (Int.le_of_lt p)
  have h2 := Int.ediv_mul_le x (Int.ne_of_gt p)
  omega
theorem ok_settled {f C : Addr} {fd : FuncData} (F : Fun K "settled" "settled" sSettled f fd) (B : Bl mg) (T : StepTxt K mg C) (CF : Cal P w K mg base CX0 2 "first_fitting" ["row", "steps"] (spFitting C)) (CL : Cal P w K mg base CX0 1 "less" ["row", "other", "times"] spLess) :
    FnOk P w K mg base CX0 3 f fd ["load", "steps"] (spSettled C) := by
  obtain ⟨fF, fdF, GF, gF, kF, bF⟩ := CF.ex
  obtain ⟨fL, fdL, GL, gL, kL, bL⟩ := CL.ex
  refine F.ok scSt (fun vs H Q E h => ?_) (fun cdv A outer s H vs Q E hr h => ?_)
  · obtain ⟨x, a, xs, us, ss, ll, b, ws, rfl, _⟩ := h
    rfl
  · obtain ⟨x, a, xs, us, ss, ll, b, ws, rfl, hx, ha, hS, Z, hX, hss, hn, q⟩ := h
    refine ⟨_, (pss_cons (ps_set (i := 2) scSt.nd rfl (.inr rfl) (pv 0))
      (pss_cons (ps_set (i := 3) scSt.nd rfl (.inl rfl) (pe_call GF (hr.mono (by decide)) (by rfl) gF kF bF .nil pass0 (pa_cons (pv 2) (pa_cons (pv 1) pa_nil))))
      (pss_cons (ps_while PassesOwn.never (pt_cmpR op_notN (pv 3) pe_non (nomark _))
      (pss_cons (ps_set (i := 4) scSt.nd rfl (.inl rfl) (pe_callB (cr_min rfl) (by rfl) B.min (by decide +kernel) (pa_cons (pe_lc (own := [("place", 6), ("number", 5)]) (g := gTup K 2 (gCons (gName 6) (gCons (gName 5) gNil))) (tt := tYes) rfl scSt.nd (pi_list (pe_fld (pv 3) rfl))
        (blkOk_by (own := [("place", 6), ("number", 5)]) (N := ["load", "steps", "row", "step", "times", "number", "place"]) (sc := defScope sSettled) (by decide +kernel)) (fun _ _ _ _ _ => (pg_tup rfl (pgs_cons (pg_name (i := 6) scSt.nd rfl (.inl rfl)) (pgs_cons (pg_name (i := 5) scSt.nd rfl (.inl rfl)) pgs_nil)))) (fun _ _ _ _ _ => pts_nil)
        (fun _ _ _ _ _ => (pe_op op_fdiv (pe_ix (r := rIxT K) ix_tup (pv 2) (pv 6) (fun _ _ => rfl)) (pv 5)))) pa_nil)))
      (pss_cons (ps_set (i := 2) scSt.nd rfl (.inr rfl) (pe_call GL (hr.mono (by decide)) (by rfl) gL kL bL .nil pass0 (pa_cons (pv 2) (pa_cons (pe_fld (pv 3) rfl) (pa_cons (pv 4) pa_nil)))))
      (pss_one (ps_set (i := 3) scSt.nd rfl (.inl rfl) (pe_call GF (hr.mono (by decide)) (by rfl) gF kF bF .nil pass0 (pa_cons (pv 2) (pa_cons (pv 1) pa_nil))))))))
      (pss_one (ps_ret (pv 2)))))), ?_⟩
    have hlen : ∀ {rs : List Int}, RowOk ll b rs → ∀ s ∈ ss, s.length = rs.length := fun {rs} h s hs => (hss s hs).len.trans h.len.symm
    let Wv : Nat → L2.St → Hp → Prop := fun m σ H' => Same H H' ∧ ∃ (r : Addr) (rs : List Int) (v : V) (y4 : Option V), σ = [some (.ref x), some (.ref a), some (.ref r), some v, y4, none, none] ∧ IntsAt H' r rs ∧ RowOk ll b rs ∧ BL.Rt (inS ss) (vec xs) (vec rs) ∧ m = muv ll b.length (vec ws) (vec rs) ∧
      ((v = .non ∧ ∀ s ∈ ss, fitB rs (askL s) = false) ∨ ∃ (i : Nat) (s : List Int), us[i]? = some v ∧ ss[i]? = some s ∧ fitB rs (askL s) = true)
    have start : ∀ (H1 : Hp) (y4 : Option V) (r : Addr) (rs : List Int) (R : L2.St → Hp → Prop), Same H H1 → IntsAt H1 r rs → RowOk ll b rs → BL.Rt (inS ss) (vec xs) (vec rs) → (∀ v, Wv (muv ll b.length (vec ws) (vec rs)) [some (.ref x), some (.ref a), some (.ref r), some v, y4, none, none] H1 → R [some (.ref x), some (.ref a), some (.ref r), some v, y4, none, none] H1) →
        spFitting C [.ref r, .ref a] H1 (fun v H2 => R [some (.ref x), some (.ref a), some (.ref r), some v, y4, none, none] H2) E0 := fun H1 y4 r rs R s1 hr1 hR hT k =>
      ⟨r, a, rs, us, ss, rfl, hr1, s1 _ _ ha, hS.same s1, hlen hR, fun h => k _ ⟨s1, r, rs, _, y4, rfl, hr1, hR, hT, rfl, .inl ⟨rfl, h⟩⟩, fun i v s h1 h2 h3 => k _ ⟨s1, r, rs, _, y4, rfl, hr1, hR, hT, rfl, .inr ⟨i, s, h1, h2, h3⟩⟩⟩
    refine ⟨.ref x, rfl, .ref x, rfl, .ref a, rfl, start H none x xs _ (Same.refl _) hx hX (.refl _) fun v hW => ?_⟩
    refine ⟨Wv, ⟨_, hW⟩, ?_⟩
    clear hW v
    rintro m σ H1 ⟨s1, r, rs, v, y4, rfl, hr1, hR, hT, rfl, hv⟩
    refine ⟨v, rfl, rfl, _, rfl, ite2 (fun c => ?_) (fun c => ?_)⟩
    · -- a step that fits
      rcases hv with ⟨rfl, _⟩ | ⟨i, st, hi1, hi2, hi3⟩
      · cases c
      have hst := hss st (List.mem_of_getElem? hi2)
      obtain ⟨p, dx, cc, l, as, rfl, hp, hc, hl, hRs⟩ := hS.2 i v st hi1 hi2
      have hfit := (fit_iff hR hst.len).mp hi3
      refine ⟨fun σ' H' => ∃ m', m' < muv ll b.length (vec ws) (vec rs) ∧ Wv m' σ' H', fun σ' H' h => h, ?_⟩
      refine ⟨.ref p, rfl, p, C, dx, _, _, rfl, s1 _ _ hp, T.cl, T.nA, stF_asks, l, rfl, ⟨_, SqL.of (s1 _ _ hl)⟩, fun D nD => ?_⟩
      refine lc_list (K := K) (a := l) (xs := as.map V.ref) (fun i H' => Same H1 H' ∧ H' D = some (.lst ((((askL st).map fun a => rs.getD (a.getD 0 0).toNat 0 / a.getD 1 0).take i).map V.int))) ⟨same_new nD, upd_same⟩ (fun i H' _ hP => SqL.of (hP.1 _ _ (s1 _ _ hl))) (fun i y H2 hy ⟨sm, hD⟩ => ?_) (fun H2 ⟨sm, hD⟩ => ?_)
      · obtain ⟨ai, hai, rfl⟩ : ∃ ai, as[i]? = some ai ∧ y = V.ref ai := by
          rw [List.getElem?_map] at hy
          cases e : as[i]? with
          | none => rw [e] at hy; cases hy
          | some z => rw [e] at hy; exact ⟨z, rfl, (Option.some.inj hy).symm⟩
        obtain ⟨aa, ha1, ha2⟩ := ((hRs.same s1).same sm).at hai
        obtain ⟨j, hj1, hj2, rfl⟩ := BL.askL_mem.mp (List.mem_of_getElem? ha1)
        have hjr : j < rs.length := by rw [← hlen hR st (List.mem_of_getElem? hi2)]; exact hj1
        have hle : st.getD j 0 ≤ rs.getD j 0 := hfit j
        have hub := hst.sml (st.getD j 0) (List.mem_of_getElem? (getD_at hj1))
        refine ⟨ai, _, rfl, SqT.of ha2, rfl, _, _, rfl, _, _, rfl, rfl, rfl, yes (iteT ?_)⟩
        refine ⟨.ref r, rfl, .int (j : Int), rfl, r, _, _, _, rfl, rfl, SqT.of (hr1.same sm), atIT hjr, .int (st.getD j 0), rfl, _, _, rfl, rfl, ⟨hj2, by omega⟩, ?_⟩
        refine turn_fn (xs := (askL st).map fun a => rs.getD (a.getD 0 0).toNat 0 / a.getD 1 0) nD ?_ ?_ sm hD (Same.refl _)
        · rw [List.getElem?_map, ha1]
          show some (rs.getD ((j : Int)).toNat 0 / st.getD j 0) = _
          rw [Int.toNat_natCast]
        · rw [List.length_map]
          have := BL.askLi_len (s := st) (i := st.length)
          have := hst.len
          show (askLi st st.length).length ≤ 1000
          omega
      · rw [List.length_map, List.take_of_length_le (by rw [List.length_map, hRs.len]; exact Nat.le_refl _)] at hD
        obtain ⟨j0, hj1, hj2⟩ := step_pos Z hst
        have hmem0 : [(j0 : Int), st.getD j0 0] ∈ askL st := BL.askL_mem.mpr ⟨j0, hj1, hj2, rfl⟩
        refine ⟨D, _, rfl, SqL.of hD, by rw [List.length_map]; exact List.length_pos_of_mem hmem0, fun t ht hmin => ?_⟩
        have tf : ∀ j, j < st.length → 0 < st.getD j 0 → t ≤ rs.getD j 0 / st.getD j 0 := fun j h1 h2 => by
          have := hmin _ (List.mem_map.mpr ⟨_, BL.askL_mem.mpr ⟨j, h1, h2, rfl⟩, rfl⟩)
          have e : rs.getD ((j : Int)).toNat 0 / st.getD j 0 = rs.getD j 0 / st.getD j 0 := by rw [Int.toNat_natCast]
          have h3 : t ≤ rs.getD ((j : Int)).toNat 0 / st.getD j 0 := this
          rw [e] at h3
          exact h3
        have t1 : 1 ≤ t := by
          obtain ⟨aa, haa, rfl⟩ := List.mem_map.mp ht
          obtain ⟨j, h1, h2, rfl⟩ := BL.askL_mem.mp haa
          show 1 ≤ rs.getD ((j : Int)).toNat 0 / st.getD j 0
          rw [Int.toNat_natCast]
          have hle : st.getD j 0 ≤ rs.getD j 0 := hfit j
          exact (Int.le_ediv_iff_mul_le h2).mpr (by omega)
        obtain ⟨n1, n2, n3⟩ := row_step Z hR hst (S := inS ss) ⟨st, List.mem_of_getElem? hi2, rfl⟩ t1 (fun j h1 h2 => div_fit (tf j h1 h2) h2)
        have s12 := s1.trans sm
        have hlr : rs.length = st.length := (hlen hR st (List.mem_of_getElem? hi2)).symm
        refine ⟨.ref r, rfl, .ref p, rfl, p, C, dx, _, _, rfl, s12 _ _ hp, T.cl, T.nC, stF_change, .int t, rfl, r, cc, rs, st, t, rfl, hr1.same sm, hc.same s12, hlr, by have := hR.len; omega, .inr hst.sml, fun H3 p3 s3 h3 => ?_⟩
        refine ⟨.ref p3, rfl, .ref a, rfl, start H3 (some (.int t)) p3 (subR rs st t) _ (s12.trans s3) h3 n1 (hT.trans n2) fun v hW => ?_⟩
        exact ⟨_, n3, hW⟩
    · -- none fits
      rcases hv with ⟨rfl, hall⟩ | ⟨i, st, hi1, hi2, hi3⟩
      · refine ⟨.ref r, rfl, q H1 r rs s1 hr1 hR hT fun s hs hf => ?_⟩
        have := (fit_iff hR (hss s hs).len).mpr hf
        rw [hall s hs] at this
        cases this
      · obtain ⟨p, dx, cc, l, as, rfl, _⟩ := hS.2 i v st hi1 hi2
        exact absurd rfl c
end
end HL

set_option pp.maxSteps 3000
namespace HL
open PySem PySem.Spec PyProof.Rows L2
open C8 (pss_cut)
open RZ (pi_zipA ItzT iZipA)
open BL (abv ngR askL askLi fitB vec RowOk StR inS St1 muv fit_iff step_pos row_step)
theorem okRow_all {ll : List (List Int)} (h : flaw ll = none) : ∀ r ∈ ll, okRow (width ll) r = true := fun r hr => by
  have h0 := flaw_ok h
  unfold flaw at h
  rw [if_pos ⟨h0.1, h0.2.1, h0.2.2.1, h0.2.2.2⟩] at h
  unfold flawIn at h
  have e : ll.findIdx? (fun r => !okRow (width ll) r) = none := by
    cases z : ll.findIdx? (fun r => !okRow (width ll) r) with
    | none => rfl
    | some i => rw [z] at h; cases h
  have := List.findIdx?_eq_none_iff.mp e r hr
  cases z : okRow (width ll) r with
  | true => rfl
  | false => rw [z] at this; cases this
theorem scCl : FnScope ["lot", "goods", "good"] ["lot"] (defScope sCols) := ⟨rfl, rfl, rfl, by decide +kernel, rfl, by decide +kernel, by decide +kernel⟩
theorem scCs : FnScope ["lot", "wish", "kinds", "goods", "all_loose", "by_wish", "places", "place"] ["lot", "wish"] (defScope sCosts) := ⟨rfl, rfl, rfl, by decide +kernel, rfl, by decide +kernel, by decide +kernel⟩
section
variable {P : Program} {w : World} {K : PySem.W.Frag} {mg : Str → Option Value} {base : Heap}
def spLook0 : Sp := fun vs H Q _ => ∃ (p : Addr) (as : List Addr) (ll : List (List Int)), vs = [.ref p] ∧ RowsAt H p as ll ∧ flaw ll = none ∧ ∀ H', Same H H' → Q .non H'
theorem ok_look0 {f : Addr} {fd : FuncData} (F : Fun K "look_lot" "look_lot" sLook f fd) (B : Bl mg) (M : Consts mg) (CH : Cal P w K mg base CX0 1 "is_hold" ["hold", "goods"] spIsHold) : FnOk P w K mg base CX0 2 f fd ["lot"] spLook0 := by
  obtain ⟨t5, m5⟩ := M.kinds
  obtain ⟨t3, m3⟩ := M.goods
  obtain ⟨fH, fdH, GH, gH, kH, bH⟩ := CH.ex
  refine F.ok scLk (fun vs H Q E h => ?_) (fun cdv A outer s H vs Q E hr h => ?_)
  · obtain ⟨p, as, ll, rfl, _⟩ := h
    rfl
  · obtain ⟨p, as, ll, rfl, hL, ef, q0⟩ := h
    have hok := flaw_ok ef
    have hrows := flaw_rows ef
    have hlen := hL.2.len
    refine ⟨_, pss_cons (ps_if (PW.pt (pw_or (pt_not (pt_chain op_le op_le pe_int (pe_callB call_len_seq (by rfl) B.len PySem.boot_len (pa_cons (pv 0) pa_nil)) (pe_glob (v := .int 5) rfl m5 ⟨_, rfl⟩)))
          (pw_or1 (pt_not (pt_chain op_le op_le pe_int (pe_callB call_len_seq (by rfl) B.len PySem.boot_len (pa_cons (pe_ix ix_tup (pv 0) pe_int (fun _ _ => rfl)) pa_nil)) (pe_glob (v := .int 3) rfl m3 ⟨_, rfl⟩)))))) pss_never pss_nil)
      (pss_one (ps_for PassesOwn.never rfl (pi_enumT (by rfl) B.enumerate (pa_cons (pv 0) pa_nil)) (pg_tup rfl (pgs_cons (pg_name (i := 1) scLk.nd rfl (.inl rfl)) (pgs_cons (pg_name (i := 2) scLk.nd rfl (.inl rfl)) pgs_nil)))
        (pss_one (ps_if (pt_not (pt_val (pe_call GH hr (by rfl) gH kH bH .nil pass0 (pa_cons (pv 2) (pa_cons (pe_callB call_len_seq (by rfl) B.len PySem.boot_len (pa_cons (pe_ix ix_tup (pv 0) pe_int (fun _ _ => rfl)) pa_nil)) pa_nil))))) pss_never pss_nil)))), ?_⟩
    have sP : SqT K H p (as.map V.ref) := SqT.of hL.1
    obtain ⟨a0, ha0, hh0, hw⟩ := hL.2.head hok.1
    have at0 : atI (as.map V.ref) 0 = some (.ref a0) := atI_nat (j := 0) (by rw [List.getElem?_map, ha0]; rfl)
    refine ⟨.ref p, rfl, p, _, rfl, .inr sP, 1, _, rfl, rfl, _, rfl, chainI ?_⟩
    rw [List.length_map, hlen, decide_eq_true (show (1 : Int) ≤ (ll.length : Nat) ∧ ((ll.length : Nat) : Int) ≤ 5 by omega)]
    refine iteF ?_
    refine ⟨.ref p, rfl, p, _, 0, .ref a0, rfl, rfl, sP, at0, a0, _, rfl, .inr (SqT.of hh0), 1, _, rfl, rfl, _, rfl, chainI ?_⟩
    rw [List.length_map, hw, decide_eq_true (show (1 : Int) ≤ (width ll : Nat) ∧ ((width ll : Nat) : Int) ≤ 3 by omega)]
    refine iteF ?_
    refine ⟨.ref p, rfl, p, _, rfl, sP, ?_⟩
    refine ⟨fun i m σ H' => i + m = as.length ∧ Same H H' ∧ (∃ y1 y2, σ = [some (.ref p), y1, y2]), ⟨as.length, by omega, Same.refl _, ⟨none, none, rfl⟩⟩, fun i m σ H' hW => ?_⟩
    obtain ⟨em, sm, ⟨y1, y2, rfl⟩⟩ := hW
    have sP' : SqT K H' p (as.map V.ref) := SqT.of (sm _ _ hL.1)
    by_cases hi : i < as.length
    · have hai : as[i]? = some as[i] := List.getElem?_eq_getElem hi
      obtain ⟨r, hr1, hr2⟩ := hL.2.at hai
      have g1 : (as.map V.ref)[i]? = some (.ref as[i]) := by rw [List.getElem?_map, hai]; rfl
      refine .inr ⟨⟨_, _, sP', g1⟩, fun σ' H2 => Same H H2 ∧ (∃ y1 y2, σ' = [some (.ref p), y1, y2]), fun σ' H2 hN => ⟨m - 1, by omega, by omega, hN⟩, fun x H2 hy => ?_⟩
      obtain ⟨T2, x2, rfl, nT, rfl, f2⟩ := hy
      have ex2 : x2 = .ref as[i] := Option.some.inj ((f2 _ sP').symm.trans g1)
      subst ex2
      have s3 : Same H (upd H' T2 (.tup [.int (i : Nat), .ref as[i]])) := sm.trans (same_new nT)
      refine ⟨T2, _, rfl, SqT.of upd_same, rfl, _, _, rfl, _, _, rfl, rfl, ?_⟩
      refine ⟨.ref as[i], rfl, .ref p, rfl, p, _, 0, .ref a0, rfl, rfl, SqT.of (s3 _ _ hL.1), at0, a0, _, rfl, .inr (SqT.of (s3 _ _ hh0)), as[i], width ll, r, ?_, s3 _ _ hr2, by have := (hrows r (List.mem_of_getElem? hr1)).1; omega, hok.2.2.1, fun H4 s4 => ⟨_, rfl, ?_⟩⟩
      · rw [List.length_map, hw]
        rfl
      · rw [okRow_all ef r (List.mem_of_getElem? hr1)]
        exact iteF ⟨s3.trans s4, ⟨_, _, rfl⟩⟩
    · exact .inl ⟨⟨_, sP', by rw [List.length_map]; omega⟩, q0 H' sm⟩
def spGoods0 : Sp := fun vs H Q _ => ∃ (p : Addr) (as : List Addr) (ll : List (List Int)), vs = [.ref p] ∧ RowsAt H p as ll ∧ flaw ll = none ∧ ∀ H', Same H H' → Q (.int (width ll : Nat)) H'
theorem ok_goods0 {f : Addr} {fd : FuncData} (F : Fun K "goods_of" "goods_of" sGoods f fd) (B : Bl mg) (CL : Cal P w K mg base CX0 2 "look_lot" ["lot"] spLook0) : FnOk P w K mg base CX0 3 f fd ["lot"] spGoods0 := by
  obtain ⟨fL, fdL, GL, gL, kL, bL⟩ := CL.ex
  refine F.ok scGo (fun vs H Q E h => ?_) (fun cdv A outer s H vs Q E hr h => ?_)
  · obtain ⟨p, as, ll, rfl, _⟩ := h
    rfl
  · obtain ⟨p, as, ll, rfl, hL, ef, q0⟩ := h
    refine ⟨_, pss_cons (ps_expr (pe_call GL hr (by rfl) gL kL bL .nil pass0 (pa_cons (pv 0) pa_nil)))
      (pss_one (ps_ret (pe_callB call_len_seq (by rfl) B.len PySem.boot_len (pa_cons (pe_ix ix_tup (pv 0) pe_int (fun _ _ => rfl)) pa_nil)))), ?_⟩
    refine ⟨.ref p, rfl, p, as, ll, rfl, hL, ef, fun H' sm => ?_⟩
    obtain ⟨a0, ha0, hh0, hw⟩ := (hL.same sm).2.head (flaw_ok ef).1
    have at0 : atI (as.map V.ref) 0 = some (.ref a0) := atI_nat (j := 0) (by rw [List.getElem?_map, ha0]; rfl)
    refine ⟨.ref p, rfl, p, _, 0, .ref a0, rfl, rfl, SqT.of (hL.same sm).1, at0, a0, _, rfl, .inr (SqT.of hh0), ?_⟩
    rw [List.length_map, hw]
    exact q0 H' sm
/-- a list of rows, under way -/
def RAcc (H : Hp) (D : Addr) (rr : List (List Int)) (i : Nat) (H' : Hp) : Prop := Same H H' ∧ ∃ us : List Addr, H' D = some (.lst (us.map V.ref)) ∧ Rows H' us (rr.take i)
theorem RAcc.start {H : Hp} {D : Addr} {rr : List (List Int)} (nD : H D = none) : RAcc H D rr 0 (upd H D (.lst [])) := ⟨same_new nD, [], upd_same, True.intro⟩
theorem RAcc.turn {H H4 H5 : Hp} {D p : Addr} {rr : List (List Int)} {i : Nat} {r : List Int} (nD : H D = none) (hx : rr[i]? = some r) (hz : rr.length ≤ 1000) (h : RAcc H D rr i H4) (s5 : Same H4 H5) (hp : IntsAt H5 p r) :
    ∃ acc, H5 D = some (.lst acc) ∧ acc.length < sizeLine ∧ RAcc H D rr (i + 1) (upd H5 D (.lst (acc ++ [.ref p]))) := by
  obtain ⟨s4, us, hD, hR⟩ := h
  have hD5 := s5 _ _ hD
  refine ⟨_, hD5, ?_, same_late (s4.trans s5) nD, us ++ [p], ?_, ?_⟩
  · rw [List.length_map, hR.len]
    exact small1000 (Nat.le_trans (List.length_take_le' _ _) hz)
  · rw [upd_same, List.map_append]
    rfl
  · rw [List.take_add_one, hx]
    refine Rows.app ?_ ⟨?_, True.intro⟩
    · refine (hR.same s5).mono fun a xs e => ?_
      rw [upd_ne (ne_of e hD5 (fun z => by cases z))]
      exact e
    · rw [upd_ne (ne_of hp hD5 (fun z => by cases z))]
      exact hp
def unitsR (g : Nat) : List (List Int) := (List.range g).map fun j => unI j g
def spCols : Sp := fun vs H Q _ => ∃ (p : Addr) (as : List Addr) (ll : List (List Int)), vs = [.ref p] ∧ RowsAt H p as ll ∧ flaw ll = none ∧ ∀ H' z zs, Same H H' → RowsAt H' z zs (ll ++ unitsR (width ll)) → Q (.ref z) H'
theorem ok_cols {f : Addr} {fd : FuncData} (F : Fun K "columns_of" "columns_of" sCols f fd) (B : Bl mg) (CG : Cal P w K mg base CX0 3 "goods_of" ["lot"] spGoods0) (CU : Cal P w K mg base CX0 1 "unit" ["place", "many"] spUnit) : FnOk P w K mg base CX0 4 f fd ["lot"] spCols := by
  obtain ⟨fG, fdG, GG, gG, kG, bG⟩ := CG.ex
  obtain ⟨fU, fdU, GU, gU, kU, bU⟩ := CU.ex
  refine F.ok scCl (fun vs H Q E h => ?_) (fun cdv A outer s H vs Q E hr h => ?_)
  · obtain ⟨p, as, ll, rfl, _⟩ := h
    rfl
  · obtain ⟨p, as, ll, rfl, R, ef, q⟩ := h
    have hok := flaw_ok ef
    refine ⟨_, (pss_cons (ps_set (i := 1) scCl.nd rfl (.inr rfl) (pe_call GG (hr.mono (by decide)) (by rfl) gG kG bG .nil pass0 (pa_cons (pv 0) pa_nil)))
      (pss_one (ps_ret (pe_op op_catA (pv 0) (pe_callTy call_tuple_of (by rfl) B.tuple (by decide +kernel) (pa_cons (pe_lc (own := [("good", 2)]) (g := gName 2) (tt := tYes) rfl scCl.nd (pi_range1 (by rfl) B.range (pa_cons (pv 1) pa_nil))
        (blkOk_by (own := [("good", 2)]) (N := ["lot", "goods", "good"]) (sc := defScope sCols) (by decide +kernel)) (fun _ _ _ _ _ => pg_name (i := 2) scCl.nd rfl (Or.inl rfl)) (fun _ _ _ _ _ => pts_nil)
        (fun _ _ _ _ _ => (pe_call GU (hr.mono (by decide)) (by rfl) gU kU bU .nil pass0 (pa_cons (pv 2) (pa_cons (pv 1) pa_nil))))) pa_nil)))))), ?_⟩
    refine ⟨.ref p, rfl, p, as, ll, rfl, R, ef, fun H1 s1 => ?_⟩
    refine ⟨.ref p, rfl, .int (width ll : Nat), rfl, _, rfl, by omega, by omega, fun D nD => ?_⟩
    refine lc_range (lo := 0) (n := ((width ll : Nat) : Int).toNat) (RAcc H1 D (unitsR (width ll))) (RAcc.start nD) (fun i H4 hi hA => ?_) (fun H4 hA => ?_)
    · have ez : (0 : Int) + (i : Nat) = ((i : Nat) : Int) := by omega
      rw [ez]
      refine ⟨rfl, yes (iteT ?_)⟩
      refine ⟨.int (i : Int), rfl, .int (width ll : Nat), rfl, i, width ll, rfl, by omega, by omega, fun H5 p5 s5 h5 => ?_⟩
      exact RAcc.turn nD (by unfold unitsR; rw [List.getElem?_map, List.getElem?_range (by omega)]; rfl) (by unfold unitsR; rw [List.length_map, List.length_range]; omega) hA s5 h5
    · obtain ⟨s4, us, hD, hR⟩ := hA
      rw [Int.toNat_natCast, List.take_of_length_le (by unfold unitsR; rw [List.length_map, List.length_range]; exact Nat.le_refl _)] at hR
      refine ⟨D, _, rfl, .inl ⟨SqL.of hD, fun t nt => ?_⟩⟩
      have st := same_new (o := .tup (us.map V.ref)) nt
      have s14 := s1.trans (s4.trans st)
      refine cat_rows (R.same s14) (show RowsAt _ t us (unitsR (width ll)) from ⟨upd_same, hR.same st⟩) (by unfold unitsR; rw [List.length_map, List.length_range]; omega) fun z H6 s6 h6 => q H6 z _ (s14.trans s6) h6
/-- t + u where t may be a constant -/
theorem cat_it {H : Hp} {a b : Addr} {xs ys : List Int} {Q : VK} (ha : IT K H a xs) (hb : IntsAt H b ys) (hx : 1 ≤ xs.length) (hy : 1 ≤ ys.length) (hz : xs.length + ys.length ≤ 1000) (q : ∀ p H', Same H H' → IntsAt H' p (xs ++ ys) → Q (.ref p) H') : rCatA K (.ref a) (.ref b) H Q := by
  refine ⟨a, b, _, _, rfl, rfl, ha, SqT.of hb, by rw [List.length_map, List.length_map]; exact sz1000 hz, fun e => ?_, fun _ e => ?_, fun _ _ p np => q p _ (same_new np) ?_⟩
  · have := congrArg List.length e
    rw [List.length_map] at this
    simp at this
    rw [this] at hx
    simp at hx
  · have := congrArg List.length e
    rw [List.length_map] at this
    simp at this
    rw [this] at hy
    simp at hy
  · unfold IntsAt
    rw [upd_same, List.map_append]
def placesN (k g : Nat) : List Nat := (List.range g).map (fun j => k + j) ++ List.range k
def costL (k g : Nat) (ns : List Int) : List (List Int) := [zeros k ++ List.replicate g 1, ns ++ zeros g] ++ (placesN k g).map fun j => unI j (k + g)
def spCosts (K : PySem.W.Frag) : Sp := fun vs H Q _ => ∃ (p v : Addr) (as : List Addr) (ll : List (List Int)) (ws : List Int), vs = [.ref p, .ref v] ∧ RowsAt H p as ll ∧ flaw ll = none ∧ IT K H v ws ∧ okWish ll.length ws = true ∧
  ∀ H' z zs, Same H H' → H' z = some (.lst (zs.map V.ref)) → Rows H' zs (costL ll.length (width ll) (numI ll.length ws)) → Q (.ref z) H'
theorem ok_costs {f : Addr} {fd : FuncData} (F : Fun K "costs_of" "costs_of" sCosts f fd) (B : Bl mg) (CG : Cal P w K mg base CX0 3 "goods_of" ["lot"] spGoods0) (CU : Cal P w K mg base CX0 1 "unit" ["place", "many"] spUnit) (CN : Cal P w K mg base CX0 1 "numbers_of" ["lot", "wish"] (spNumbers K)) :
    FnOk P w K mg base CX0 4 f fd ["lot", "wish"] (spCosts K) := by
  obtain ⟨fG, fdG, GG, gG, kG, bG⟩ := CG.ex
  obtain ⟨fU, fdU, GU, gU, kU, bU⟩ := CU.ex
  obtain ⟨fN, fdN, GN, gN, kN, bN⟩ := CN.ex
  refine F.ok scCs (fun vs H Q E h => ?_) (fun cdv A outer s H vs Q E hr h => ?_)
  · obtain ⟨p, v, as, ll, ws, rfl, _⟩ := h
    rfl
  · obtain ⟨p, v, as, ll, ws, rfl, R, ef, hW, eo, q⟩ := h
    have hok := flaw_ok ef
    have hlen := R.2.len
    have hnl := numI_len eo
    refine ⟨_, (pss_cons (ps_set (i := 2) scCs.nd rfl (.inr rfl) (pe_callB call_len_seq (by rfl) B.len PySem.boot_len (pa_cons (pv 0) pa_nil)))
      (pss_cons (ps_set (i := 3) scCs.nd rfl (.inr rfl) (pe_call GG (hr.mono (by decide)) (by rfl) gG kG bG .nil pass0 (pa_cons (pv 0) pa_nil)))
      (pss_cons (ps_set (i := 4) scCs.nd rfl (.inl rfl) (pe_op op_catA (pe_op op_repA (pe_tup (pa_cons pe_int pa_nil)) (pv 2)) (pe_op op_repA (pe_tup (pa_cons pe_int pa_nil)) (pv 3))))
      (pss_cons (ps_set (i := 5) scCs.nd rfl (.inl rfl) (pe_op op_catA (pe_call GN (hr.mono (by decide)) (by rfl) gN kN bN .nil pass0 (pa_cons (pv 0) (pa_cons (pv 1) pa_nil))) (pe_op op_repA (pe_tup (pa_cons pe_int pa_nil)) (pv 3))))
      (pss_cons (ps_set (i := 6) scCs.nd rfl (.inl rfl) (pe_op op_cat (pe_listRg rfl (by rfl) B.list (prg_2 (by rfl) B.range (pv 2) (pe_op op_add (pv 2) (pv 3)))) (pe_listRg rfl (by rfl) B.list (prg_1 (by rfl) B.range (pv 2)))))
      (pss_one (ps_ret (pe_op op_cat (pe_lst (pa_cons (pv 4) (pa_cons (pv 5) pa_nil))) (pe_lc (own := [("place", 7)]) (g := gName 7) (tt := tYes) rfl scCs.nd (pi_list (pv 6))
        (blkOk_by (own := [("place", 7)]) (N := ["lot", "wish", "kinds", "goods", "all_loose", "by_wish", "places", "place"]) (sc := defScope sCosts) (by decide +kernel)) (fun _ _ _ _ _ => pg_name (i := 7) scCs.nd rfl (Or.inl rfl)) (fun _ _ _ _ _ => pts_nil)
        (fun _ _ _ _ _ => (pe_call GU (hr.mono (by decide)) (by rfl) gU kU bU .nil pass0 (pa_cons (pv 7) (pa_cons (pe_op op_add (pv 2) (pv 3)) pa_nil))))))))))))), ?_⟩
    refine ⟨.ref p, rfl, p, _, rfl, .inr (SqT.of R.1), ?_⟩
    rw [List.length_map, hlen]
    refine ⟨.ref p, rfl, p, as, ll, rfl, R, ef, fun H1 s1 => ?_⟩
    generalize ek : ll.length = k at hnl eo q hok ⊢
    generalize eg : width ll = g at q hok ⊢
    -- all_loose
    refine ⟨sz_1 _, fun t1 nt1 => ⟨.int (k : Nat), rfl, rep0_read upd_same (by omega) (by omega) fun z1 H2 s2 h1 => ⟨sz_1 _, fun t2 nt2 => ⟨.int (g : Nat), rfl, rep1_read upd_same (by omega) (by omega) fun z2 H3 s3 h2 => ?_⟩⟩⟩⟩
    have st1 := same_new (o := .tup [.int 0]) nt1
    have st2 := same_new (o := .tup [.int 1]) nt2
    refine cat_ints ((h1.same st2).same s3) h2 (by rw [zeros_len, List.length_replicate]; omega) fun z3 H4 s4 h3 => ?_
    have s14 := s1.trans (st1.trans (s2.trans (st2.trans (s3.trans s4))))
    -- by_wish
    refine ⟨.ref p, rfl, .ref v, rfl, p, v, as, ll, ws, rfl, R.same s14, by omega, by omega, hW.same s14, fun H5 z5 s5 h5 => ⟨sz_1 _, fun t3 nt3 => ⟨.int (g : Nat), rfl, rep0_read upd_same (by omega) (by omega) fun z6 H6 s6 h6 => ?_⟩⟩⟩
    rw [ek] at h5
    have st3 := same_new (o := .tup [.int 0]) nt3
    refine cat_it ((h5.same st3).same s6) h6 (by rw [hnl]; omega) (by rw [zeros_len]; omega) (by rw [hnl, zeros_len]; omega) fun z7 H7 s7 h7 => ?_
    have s47 := s5.trans (st3.trans (s6.trans s7))
    -- places
    refine ⟨.int (k : Nat), rfl, .int (k : Nat), rfl, .int (g : Nat), rfl, _, _, rfl, rfl, _, _, rfl, rfl, RgOk.of_le (by omega) (by omega) (by omega) (by omega), fun l1 nl1 => ?_⟩
    have sl1 := same_new (o := .lst (rgV (k : Int) ((k : Int) + (g : Int)))) nl1
    refine ⟨.int (k : Nat), rfl, _, rfl, RgOk.of_le (by omega) (by omega) (by omega) (by omega), fun l2 nl2 => ?_⟩
    have sl2 := same_new (o := .lst (rgV 0 (k : Int))) nl2
    refine ⟨l1, l2, _, _, rfl, rfl, sl2 _ _ upd_same, upd_same, by rw [rgV_length, rgV_length]; exact sz1000 (by omega), fun l3 nl3 => ?_⟩
    have sl3 := same_new (o := .lst (rgV (k : Int) ((k : Int) + (g : Int)) ++ rgV 0 (k : Int))) nl3
    have sl := sl1.trans (sl2.trans sl3)
    have epl : rgV (k : Int) ((k : Int) + (g : Int)) ++ rgV 0 (k : Int) = (placesN k g).map fun (j : Nat) => V.int (j : Int) := by
      unfold rgV placesN
      rw [List.map_append, List.map_map, show ((k : Int) + (g : Int) - (k : Int)).toNat = g by omega, show ((k : Int) - 0).toNat = k by omega]
      congr 1
      exact List.map_congr_left fun j _ => by
        show V.int (0 + ((j : Nat) : Int)) = V.int (j : Int)
        rw [Int.zero_add]
    have hl3 : (upd (upd (upd H7 l1 (.lst (rgV (k : Int) ((k : Int) + (g : Int))))) l2 (.lst (rgV 0 (k : Int)))) l3 (.lst (rgV (k : Int) ((k : Int) + (g : Int)) ++ rgV 0 (k : Int)))) l3 = some (.lst ((placesN k g).map fun (j : Nat) => V.int (j : Int))) := by
      rw [upd_same, epl]
    generalize (upd (upd (upd H7 l1 (.lst (rgV (k : Int) ((k : Int) + (g : Int))))) l2 (.lst (rgV 0 (k : Int)))) l3 (.lst (rgV (k : Int) ((k : Int) + (g : Int)) ++ rgV 0 (k : Int)))) = H8 at sl hl3 ⊢
    have h38 : IntsAt H8 z3 (zeros k ++ List.replicate g 1) := (h3.same s47).same sl
    have h78 : IntsAt H8 z7 (numI k ws ++ zeros g) := h7.same sl
    -- the list
    refine ⟨.ref z3, rfl, .ref z7, rfl, sz_2 _ _, fun l4 nl4 => ?_⟩
    have sl4 := same_new (o := .lst [V.ref z3, V.ref z7]) nl4
    refine ⟨.ref l3, rfl, l3, rfl, ⟨_, SqL.of (sl4 _ _ hl3)⟩, fun D nD => ?_⟩
    have ell : (placesN k g).length = g + k := by
      unfold placesN
      rw [List.length_append, List.length_map, List.length_range, List.length_range]
    refine lc_list (K := K) (a := l3) (xs := (placesN k g).map fun (j : Nat) => V.int (j : Int)) (RAcc _ D ((placesN k g).map fun j => unI j (k + g))) (RAcc.start nD) (fun i H' _ hP => SqL.of (hP.1 _ _ (sl4 _ _ hl3))) (fun i y H9 hy hA => ?_) (fun H9 hA => ?_)
    · obtain ⟨j, hj, rfl⟩ : ∃ j : Nat, (placesN k g)[i]? = some j ∧ y = V.int (j : Int) := by
        rw [List.getElem?_map] at hy
        cases e : (placesN k g)[i]? with
        | none => rw [e] at hy; cases hy
        | some z => rw [e] at hy; exact ⟨z, rfl, (Option.some.inj hy).symm⟩
      have hjl : j < k + g := by
        have hm := List.mem_of_getElem? hj
        unfold placesN at hm
        rcases List.mem_append.mp hm with hm | hm
        · obtain ⟨x, hx, rfl⟩ := List.mem_map.mp hm
          have := List.mem_range.mp hx
          omega
        · have := List.mem_range.mp hm
          omega
      refine ⟨rfl, yes (iteT ?_)⟩
      refine ⟨.int (j : Int), rfl, .int (k : Nat), rfl, .int (g : Nat), rfl, _, _, rfl, rfl, j, k + g, ?_, hjl, by omega, fun H10 p10 s10 h10 => ?_⟩
      · have e : (((k + g : Nat)) : Int) = (k : Int) + (g : Int) := by omega
        rw [e]
        rfl
      · exact RAcc.turn nD (by rw [List.getElem?_map, hj]; rfl) (by rw [List.length_map, ell]; omega) hA s10 h10
    · obtain ⟨s9, us, hD, hR⟩ := hA
      rw [List.length_map, List.take_of_length_le (by rw [List.length_map]; exact Nat.le_refl _)] at hR
      have hl4 := s9 _ _ (upd_same (H := H8) (a := l4) (o := .lst [V.ref z3, V.ref z7]))
      refine ⟨l4, D, _, _, rfl, rfl, hl4, hD, ?_, fun l5 nl5 => ?_⟩
      · rw [List.length_map, hR.len, List.length_map, ell]
        exact sz1000 (by show 2 + (g + k) ≤ 1000; omega)
      · have sl5 := same_new (o := .lst ([V.ref z3, V.ref z7] ++ us.map V.ref)) nl5
        have s95 := sl4.trans (s9.trans sl5)
        refine q _ l5 (z3 :: z7 :: us) (s14.trans (s47.trans (sl.trans s95))) upd_same ⟨h38.same s95, h78.same s95, hR.same sl5⟩
end
end HL

set_option pp.maxSteps 3000
namespace HL
open PySem PySem.Spec PyProof.Rows L2
open C8 (pss_cut)
open RZ (pi_zipA ItzT iZipA)
open BL (abv ngR askL askLi fitB vec RowOk StR inS St1 muv fit_iff step_pos row_step)
theorem scLs : FnScope ["least", "one", "other", "mine", "number", "theirs"] ["least", "one", "other"] (defScope sLeaves) := ⟨rfl, rfl, rfl, by decide +kernel, rfl, by decide +kernel, by decide +kernel⟩
theorem scSp : FnScope ["least", "one", "other", "steps", "step"] ["least", "one", "other", "steps"] (defScope sSpanned) := ⟨rfl, rfl, rfl, by decide +kernel, rfl, by decide +kernel, by decide +kernel⟩
section
variable {P : Program} {w : World} {K : PySem.W.Frag} {mg : Str → Option Value} {base : Heap}
def mx3 (x y : Int) : Int := if (if x < y then y else x) < 0 then 0 else (if x < y then y else x)
theorem nuMx2 {x y : Int} : nuMax2 (.int x) (.int y) = some (.int (if x < y then y else x)) := by
  unfold nuMax2
  show Option.map _ (some (decide (x < y))) = _
  by_cases c : x < y
  · rw [decide_eq_true c, if_pos c]; rfl
  · rw [decide_eq_false c, if_neg c]; rfl
theorem nuMx {x y : Int} : nuMax3 (.int x) (.int y) (.int 0) = some (.int (mx3 x y)) := by
  unfold nuMax3 mx3
  rw [nuMx2]
  show nuMax2 _ _ = _
  rw [nuMx2]
def lvL (x s t : List Int) : List Bool := (List.range x.length).map fun i => decide (mx3 (s.getD i 0) (t.getD i 0) < x.getD i 0)
def lvB (x s t : List Int) : Bool := (lvL x s t).any id
def spLeaves : Sp := fun vs H Q _ => ∃ (x a b : Addr) (xs ys zs : List Int), vs = [.ref x, .ref a, .ref b] ∧ IntsAt H x xs ∧ IntsAt H a ys ∧ IntsAt H b zs ∧ ys.length = xs.length ∧ zs.length = xs.length ∧ xs.length ≤ 100 ∧ ∀ H', Same H H' → Q (.bl (lvB xs ys zs)) H'
theorem ok_leaves {f : Addr} {fd : FuncData} {k : Nat} (F : Fun K "leaves_some" "leaves_some" sLeaves f fd) (B : Bl mg) (mz : mg "zip" = none) (mAny : mg "any" = none) (mx : mg "max" = none) : FnOk P w K mg base CX0 (k + 1) f fd ["least", "one", "other"] spLeaves := by
  refine F.ok scLs (fun vs H Q E h => ?_) (fun cdv A outer s H vs Q E hr h => ?_)
  · obtain ⟨x, a, b, xs, ys, zs, rfl, _⟩ := h
    rfl
  · obtain ⟨x, a, b, xs, ys, zs, rfl, hx, ha, hb, l1, l2, hz, q⟩ := h
    refine ⟨_, (pss_one (ps_ret (pe_callB (cr_any rfl) (by rfl) mAny (by decide +kernel) (pa_cons (pe_lc (own := [("number", 4), ("mine", 3), ("theirs", 5)]) (g := gTup K 3 (gCons (gName 4) (gCons (gName 3) (gCons (gName 5) gNil)))) (tt := tYes) rfl scLs.nd (pi_zip3 (by rfl) mz (pa_cons (pv 0) (pa_cons (pv 1) (pa_cons (pv 2) pa_nil))))
        (blkOk_by (own := [("number", 4), ("mine", 3), ("theirs", 5)]) (N := ["least", "one", "other", "mine", "number", "theirs"]) (sc := defScope sLeaves) (by decide +kernel)) (fun _ _ _ _ _ => (pg_tup rfl (pgs_cons (pg_name (i := 4) scLs.nd rfl (.inl rfl)) (pgs_cons (pg_name (i := 3) scLs.nd rfl (.inl rfl)) (pgs_cons (pg_name (i := 5) scLs.nd rfl (.inl rfl)) pgs_nil))))) (fun _ _ _ _ _ => pts_nil)
        (fun _ _ _ _ _ => (pe_cmpR op_gt (pv 4) (pe_callB (call_max3Nu rfl) (by rfl) mx (by decide +kernel) (pa_cons (pv 3) (pa_cons (pv 5) (pa_cons pe_int pa_nil)))) (nomark _)))) pa_nil)))), ?_⟩
    refine ⟨.ref x, rfl, .ref a, rfl, .ref b, rfl, x, a, b, _, _, _, rfl, SqT.of hx, SqT.of ha, SqT.of hb, fun D nD => ?_⟩
    have hll : (lvL xs ys zs).length = xs.length := by unfold lvL; rw [List.length_map, List.length_range]
    refine ⟨fun i m H' => i + m = xs.length ∧ Same H H' ∧ H' D = some (.lst (((lvL xs ys zs).take i).map V.bl)), ⟨xs.length, by omega, same_new nD, upd_same⟩, fun i m H' hW => ?_⟩
    obtain ⟨em, sm, hD⟩ := hW
    have sX : SqT K H' x (xs.map V.int) := SqT.of (hx.same sm)
    have sA : SqT K H' a (ys.map V.int) := SqT.of (ha.same sm)
    have sB : SqT K H' b (zs.map V.int) := SqT.of (hb.same sm)
    by_cases hi : i < xs.length
    · have g0 : (xs.map V.int)[i]? = some (.int (xs.getD i 0)) := by rw [List.getElem?_map, getD_at hi]; rfl
      have g1 : (ys.map V.int)[i]? = some (.int (ys.getD i 0)) := by rw [List.getElem?_map, getD_at (by omega)]; rfl
      have g2 : (zs.map V.int)[i]? = some (.int (zs.getD i 0)) := by rw [List.getElem?_map, getD_at (by omega)]; rfl
      refine .inr ⟨⟨_, _, _, _, _, _, ⟨sX, g0⟩, ⟨sA, g1⟩, sB, g2⟩, fun H2 => Same H H2 ∧ H2 D = some (.lst (((lvL xs ys zs).take (i + 1)).map V.bl)), fun H2 hN => ⟨m - 1, by omega, by omega, hN⟩, fun v H2 hyy => ?_⟩
      obtain ⟨T, x0, x1, x2, rfl, nT, rfl, f0, f1, f2⟩ := hyy
      have ex0 := Option.some.inj ((f0 _ sX).symm.trans g0)
      have ex1 := Option.some.inj ((f1 _ sA).symm.trans g1)
      have ex2 := Option.some.inj ((f2 _ sB).symm.trans g2)
      subst ex0 ex1 ex2
      have sT := same_new (o := .tup [V.int (xs.getD i 0), V.int (ys.getD i 0), V.int (zs.getD i 0)]) nT
      refine ⟨T, _, rfl, SqT.of upd_same, rfl, _, _, rfl, _, _, rfl, _, _, rfl, rfl, rfl, yes (iteT ?_)⟩
      refine ⟨_, rfl, _, rfl, _, rfl, _, _, _, _, rfl, nuMx, _, _, rfl, rfl, _, sT _ _ hD, ?_, same_late (sm.trans sT) nD, ?_⟩
      · rw [List.length_map]
        exact small1000 (Nat.le_trans (List.length_take_le _ _) (by omega))
      · have e : (lvL xs ys zs)[i]? = some (decide (mx3 (ys.getD i 0) (zs.getD i 0) < xs.getD i 0)) := by
          unfold lvL
          rw [List.getElem?_map, List.getElem?_range hi]
          rfl
        rw [upd_same, List.take_add_one, e, List.map_append]
        rfl
    · refine .inl ⟨⟨_, _, _, sX, sA, sB, by rw [List.length_map, List.length_map]; omega, by rw [List.length_map, List.length_map]; omega, by rw [List.length_map]; omega⟩, ?_⟩
      rw [List.take_of_length_le (by omega)] at hD
      exact ⟨D, _, rfl, SqL.of hD, q H' sm⟩
def spanB (x o t : List Int) (ss : List (List Int)) : Bool := ss.any fun s => fitB x (askL s) && (lvB x o s && lvB x t s)
def spSpanned (C : Addr) : Sp := fun vs H Q _ => ∃ (x o t a : Addr) (xs os ts : List Int) (us : List V) (ss : List (List Int)), vs = [.ref x, .ref o, .ref t, .ref a] ∧ IntsAt H x xs ∧ IntsAt H o os ∧ IntsAt H t ts ∧ os.length = xs.length ∧ ts.length = xs.length ∧ xs.length ≤ 100 ∧ H a = some (.lst us) ∧ StepsIn C H us ss ∧ (∀ s ∈ ss, s.length = xs.length) ∧
  ∀ H', Same H H' → Q (.bl (spanB xs os ts ss)) H'
theorem ok_spanned {f C : Addr} {fd : FuncData} (F : Fun K "is_spanned" "is_spanned" sSpanned f fd) (T : StepTxt K mg C) (CA : Cal P w K mg base CX0 1 "asks_fit" ["row", "asks"] spAsksFit) (CL : Cal P w K mg base CX0 1 "leaves_some" ["least", "one", "other"] spLeaves) :
    FnOk P w K mg base CX0 2 f fd ["least", "one", "other", "steps"] (spSpanned C) := by
  obtain ⟨fA, fdA, GA, gA, kA, bA⟩ := CA.ex
  obtain ⟨fL, fdL, GL, gL, kL, bL⟩ := CL.ex
  refine F.ok scSp (fun vs H Q E h => ?_) (fun cdv A outer s H vs Q E hr h => ?_)
  · obtain ⟨x, o, t, a, xs, os, ts, us, ss, rfl, _⟩ := h
    rfl
  · obtain ⟨x, o, t, a, xs, os, ts, us, ss, rfl, hx, ho, ht, l1, l2, hz, ha, hS, hn, q⟩ := h
    refine ⟨_, (pss_cons (ps_for PassesOwn.never rfl (pi_list (pv 3)) (pg_name (i := 4) scSp.nd rfl (.inl rfl))
      (pss_one (ps_if (PW.pt (pw_and (pt_val (pe_call GA (hr.mono (by decide)) (by rfl) gA kA bA .nil pass0 (pa_cons (pv 0) (pa_cons (pe_fld (pv 4) rfl) pa_nil)))) (pw_and1 (pt_val (pe_call GL (hr.mono (by decide)) (by rfl) gL kL bL .nil pass0 (pa_cons (pv 0) (pa_cons (pv 1) (pa_cons (pe_fld (pv 4) rfl) pa_nil)))))))) (pss_one (ps_if (pt_val (pe_call GL (hr.mono (by decide)) (by rfl) gL kL bL .nil pass0 (pa_cons (pv 0) (pa_cons (pv 2) (pa_cons (pe_fld (pv 4) rfl) pa_nil))))) (pss_one (ps_ret pe_bl)) pss_nil)) pss_nil)))
      (pss_one (ps_ret pe_bl))), ?_⟩
    refine ⟨.ref a, rfl, a, rfl, ⟨_, SqL.of ha⟩, for_list (K := K) (a := a) (xs := us) (fun i σ H' => Same H H' ∧ (∃ y4, σ = [some (.ref x), some (.ref o), some (.ref t), some (.ref a), y4]) ∧ ∀ (j : Nat) (s : List Int), j < i → ss[j]? = some s → (fitB xs (askL s) && (lvB xs os s && lvB xs ts s)) = false)
      ⟨Same.refl _, ⟨none, rfl⟩, fun j a h => absurd h (Nat.not_lt_zero _)⟩ (fun i σ H' _ ⟨s', _⟩ => SqL.of (s' _ _ ha)) ?_ ?_⟩
    · rintro i y σ H1 hy ⟨s1, ⟨y4, rfl⟩, ih⟩
      obtain ⟨s, hs1, hst⟩ := hS.at hy
      have hsm := List.mem_of_getElem? hs1
      have hlen := hn s hsm
      obtain ⟨p, dx, c, l, as, rfl, hp, hc, hl, hR⟩ := hst.same s1
      have next : ∀ H', Same H1 H' → (fitB xs (askL s) && (lvB xs os s && lvB xs ts s)) = false → Same H H' ∧ (∃ y4, [some (V.ref x), some (.ref o), some (.ref t), some (.ref a), some (.ref p)] = [some (V.ref x), some (.ref o), some (.ref t), some (.ref a), y4]) ∧ ∀ (j : Nat) (s : List Int), j < i + 1 → ss[j]? = some s → (fitB xs (askL s) && (lvB xs os s && lvB xs ts s)) = false := fun H' s' e => by
        refine ⟨s1.trans s', ⟨_, rfl⟩, fun j s'' h' e' => ?_⟩
        by_cases cj : j < i
        · exact ih j s'' cj e'
        · have : j = i := by omega
          subst this
          rw [hs1] at e'
          cases e'
          exact e
      refine ⟨.ref x, rfl, .ref p, rfl, p, C, dx, _, _, rfl, hp, T.cl, T.nA, stF_asks, x, l, xs, as, _, rfl, hx.same s1, hl, hR, ask_ok hlen, _, rfl, ite2 (fun c1 => ?_) (fun c1 => ?_)⟩
      · refine ⟨.ref x, rfl, .ref o, rfl, .ref p, rfl, p, C, dx, _, _, rfl, hp, T.cl, T.nC, stF_change, x, o, c, xs, os, s, rfl, hx.same s1, ho.same s1, hc, l1, hlen, hz, fun H2 s2 => ⟨_, rfl, ite2 (fun c2 => ?_) (fun c2 => ?_)⟩⟩
        · refine ⟨.ref x, rfl, .ref t, rfl, .ref p, rfl, p, C, dx, _, _, rfl, s2 _ _ hp, T.cl, T.nC, stF_change, x, t, c, xs, ts, s, rfl, (hx.same s1).same s2, (ht.same s1).same s2, hc.same s2, l2, hlen, hz, fun H3 s3 => ⟨_, rfl, ite2 (fun c3 => ?_) (fun c3 => ?_)⟩⟩
          · have e : spanB xs os ts ss = true := List.any_eq_true.mpr ⟨s, hsm, by rw [c1, c2, c3]; rfl⟩
            have := q H3 (s1.trans (s2.trans s3))
            rw [e] at this
            exact this
          · exact next H3 (s2.trans s3) (by rw [c1, c2, Bool.eq_false_iff.mpr c3]; rfl)
        · exact next H2 s2 (by rw [c1, Bool.eq_false_iff.mpr c2]; rfl)
      · exact iteF (next H1 (Same.refl _) (by rw [Bool.eq_false_iff.mpr c1]; rfl))
    · rintro σ H1 ⟨s1, ⟨y4, rfl⟩, ih⟩
      have e : spanB xs os ts ss = false := by
        cases e : spanB xs os ts ss with
        | false => rfl
        | true =>
          obtain ⟨s, hs, h2⟩ := List.any_eq_true.mp e
          obtain ⟨j, hj, ej⟩ := List.mem_iff_getElem.mp hs
          rw [ih j s (by rw [hS.1]; exact hj) (by rw [List.getElem?_eq_getElem hj, ej])] at h2
          cases h2
      have := q H1 s1
      rw [e] at this
      exact this
end
end HL

set_option pp.maxSteps 3000
namespace HL
open PySem PySem.Spec PyProof.Rows L2
open C8 (pss_cut)
open RZ (pi_zipA ItzT iZipA)
open BL (abv ngR askL askLi fitB vec RowOk StR inS St1 muv fit_iff step_pos row_step)
abbrev NWf : List Str := ["change", "costs", "sums", "first", "cost", "number", "row", "total"]
theorem scWf : FnScope NWf ["change", "costs"] (defScope sWorse) := ⟨rfl, rfl, rfl, by decide +kernel, rfl, by decide +kernel, by decide +kernel⟩
abbrev scWfO : Scope := { kind := .function, names := [(".0", .local), ("row", .local), ("sum", .globalImplicit), ("zip", .globalImplicit), ("change", .cell)], isGenerator := false, isCoroutine := false }
section
variable {P : Program} {w : World} {K : PySem.W.Frag} {mg : Str → Option Value} {base : Heap}
def sumsR (cc : List (List Int)) (s : List Int) : List Int := cc.map fun r => dotI r s
def nzR (l : List Int) : List Int := l.filter fun t => decide (t ≠ 0)
theorem nz_take {l : List Int} {i : Nat} {t : Int} (h : l[i]? = some t) : nzR (l.take (i + 1)) = nzR (l.take i) ++ if t ≠ 0 then [t] else [] := by
  unfold nzR
  rw [List.take_add_one, h, List.filter_append]
  congr 1
  by_cases c : t ≠ 0
  · rw [if_pos c]
    show List.filter _ [t] = [t]
    rw [List.filter_cons, if_pos (decide_eq_true c)]
    rfl
  · rw [if_neg c]
    show List.filter _ [t] = []
    rw [List.filter_cons, if_neg (fun z => c (of_decide_eq_true z))]
    rfl
def spWorse : Sp := fun vs H Q _ => ∃ (c k : Addr) (s : List Int) (zs : List Addr) (cc : List (List Int)), vs = [.ref c, .ref k] ∧ IntsAt H c s ∧ H k = some (.lst (zs.map V.ref)) ∧ Rows H zs cc ∧ (∀ r ∈ cc, r.length = s.length ∧ ∀ z ∈ r, -1000 ≤ z ∧ z ≤ 1000) ∧ s.length ≤ 100 ∧ cc.length ≤ 100 ∧
  ∃ t rest, nzR (sumsR cc s) = t :: rest ∧ ∀ H' z, Same H H' → IntsAt H' z (if 0 < t then s else ngR s) → Q (.ref z) H'
theorem ok_worse {f : Addr} {fd : FuncData} (F : Fun K "worse_first" "worse_first" sWorse f fd) (B : Bl mg) (mz : mg "zip" = none) (CO : Cal P w K mg base CX0 1 "opposite" ["row"] spOpp) : FnOk P w K mg base CX0 2 f fd ["change", "costs"] spWorse := by
  obtain ⟨fO, fdO, GO, gO, kO, bO⟩ := CO.ex
  refine F.ok scWf (fun vs H Q E h => ?_) (fun cdv A outer s H vs Q E hr h => ?_)
  · obtain ⟨c, k, s, zs, cc, rfl, _⟩ := h
    rfl
  · obtain ⟨c, k, s, zs, cc, rfl, hc, hk, hR, hrow, hz, hcz, t, rest, et, q⟩ := h
    refine ⟨_, (pss_cons (ps_setLc (i := 2) (own := [("row", 6)]) (g := gName 6) (tt := tYes) (te := (tCB (rSum K) (tCons (tLc (iZipA K (tCons (tVar 6) (tCons (tVar 0) tNil))) (gTup K 2 (gCons (gName 4) (gCons (gName 5) gNil))) tYes (tOp (rI CMul fun i j => .int (i * j)) (tVar 4) (tVar 5)) [4, 5]) tNil))) rfl scWf.nd rfl rfl (sw_true rfl rfl rfl (by decide +kernel)) (pi_list (pv 1))
        (blkOk_by (own := [("row", 6)]) (N := NWf) (sc := defScope sWorse) (by decide +kernel)) (fun _ _ _ _ _ => pg_name (i := 6) scWf.nd rfl (Or.inl rfl)) (fun _ _ _ _ _ => pts_nil)
        (fun _ _ _ _ _ => (pe_callB (cr_sum rfl) (by rfl) B.sum (by decide +kernel) (pa_cons (pe_lc (own := [("cost", 4), ("number", 5)]) (g := gTup K 2 (gCons (gName 4) (gCons (gName 5) gNil))) (tt := tYes) rfl scWf.nd (pi_zipA (by rfl) mz (pa_cons (pv 6) (pa_cons (pv 0) pa_nil)))
        (blkOk_by (own := [("cost", 4), ("number", 5)]) (N := NWf) (sc := scWfO) (by decide +kernel)) (fun _ _ _ _ _ => (pg_tup rfl (pgs_cons (pg_name (i := 4) scWf.nd rfl (.inl rfl)) (pgs_cons (pg_name (i := 5) scWf.nd rfl (.inl rfl)) pgs_nil)))) (fun _ _ _ _ _ => pts_nil)
        (fun _ _ _ _ _ => (pe_op op_mul (pv 4) (pv 5)))) pa_nil))))
      (pss_cons (ps_set (i := 3) scWf.nd rfl (.inl rfl) (pe_ix ix_list (pe_lc (own := [("total", 7)]) (g := gName 7) rfl scWf.nd (pi_list (pv 2))
        (blkOk_by (own := [("total", 7)]) (N := NWf) (sc := defScope sWorse) (by decide +kernel)) (fun _ _ _ _ _ => pg_name (i := 7) scWf.nd rfl (Or.inl rfl)) (fun _ _ _ _ _ => pts_one (pt_cmpR op_ne (pv 7) pe_int (nomark _)))
        (fun _ _ _ _ _ => (pv 7))) pe_int (fun _ _ => rfl)))
      (pss_one (ps_ret (pe_ifExp (pt_cmpR op_gt (pv 3) pe_int (nomark _)) (pv 0) (pe_call GO (hr.mono (by decide)) (by rfl) gO kO bO .nil pass0 (pa_cons (pv 0) pa_nil))))))), ?_⟩
    refine ⟨.ref k, rfl, k, rfl, ⟨_, SqL.of hk⟩, fun D nD => ?_⟩
    refine lc_list (K := K) (a := k) (xs := zs.map V.ref) (fun i H' => Same H H' ∧ H' D = some (.lst (((sumsR cc s).take i).map V.int))) ⟨same_new nD, upd_same⟩ (fun i H' _ hP => SqL.of (hP.1 _ _ hk)) (fun i y H1 hy ⟨s1, hD⟩ => ?_) (fun H1 ⟨s1, hD⟩ => ?_)
    · obtain ⟨ai, hai, rfl⟩ : ∃ ai, zs[i]? = some ai ∧ y = V.ref ai := by
        rw [List.getElem?_map] at hy
        cases e : zs[i]? with
        | none => rw [e] at hy; cases hy
        | some z => rw [e] at hy; exact ⟨z, rfl, (Option.some.inj hy).symm⟩
      obtain ⟨r, hr1, hr2⟩ := (hR.same s1).at hai
      obtain ⟨hrl, hrb⟩ := hrow r (List.mem_of_getElem? hr1)
      refine ⟨rfl, yes (iteT ?_)⟩
      refine ⟨.ref ai, rfl, .ref c, rfl, ai, c, _, _, rfl, .inr ⟨SqT.of hr2, SqT.of (hc.same s1), fun D2 nD2 => ?_⟩⟩
      refine ⟨fun j m H' => j + m = r.length ∧ Same H1 H' ∧ H' D2 = some (.lst ((((r.zip s).take j).map fun q => q.1 * q.2).map V.int)), ⟨r.length, by omega, same_new nD2, upd_same⟩, fun j m H' hW => ?_⟩
      obtain ⟨em, sm, hD2⟩ := hW
      have sA : SqT K H' ai (r.map V.int) := SqT.of (sm _ _ hr2)
      have sB : SqT K H' c (s.map V.int) := SqT.of ((hc.same s1).same sm)
      by_cases hj : j < r.length
      · have hxx : r[j]? = some (r[j]'hj) := List.getElem?_eq_getElem hj
        have hyy : s[j]? = some (s[j]'(by omega)) := List.getElem?_eq_getElem (by omega)
        have g1 : (r.map V.int)[j]? = some (.int (r[j]'hj)) := by rw [List.getElem?_map, hxx]; rfl
        have g2 : (s.map V.int)[j]? = some (.int (s[j]'(by omega))) := by rw [List.getElem?_map, hyy]; rfl
        have hb := hrb _ (List.mem_of_getElem? hxx)
        refine .inr ⟨⟨_, _, _, _, sA, sB, g1, g2⟩, fun H2 => Same H1 H2 ∧ H2 D2 = some (.lst ((((r.zip s).take (j + 1)).map fun q => q.1 * q.2).map V.int)), fun H2 hN => ⟨m - 1, by omega, by omega, hN⟩, fun x H2 hyy2 => ?_⟩
        obtain ⟨T, x1, x2, rfl, nT, rfl, f1, f2⟩ := hyy2
        have ex1 := Option.some.inj ((f1 _ sA).symm.trans g1)
        have ex2 := Option.some.inj ((f2 _ sB).symm.trans g2)
        subst ex1 ex2
        have sT := same_new (o := .tup [V.int (r[j]'hj), V.int (s[j]'(by omega))]) nT
        refine ⟨T, _, rfl, SqT.of upd_same, rfl, _, _, rfl, _, _, rfl, rfl, rfl, yes (iteT ?_)⟩
        refine ⟨_, rfl, _, rfl, _, _, rfl, rfl, .inl ⟨by omega, by omega⟩, _, sT _ _ hD2, ?_, same_late (sm.trans sT) nD2, ?_⟩
        · rw [List.length_map, List.length_map]
          exact small1000 (Nat.le_trans (List.length_take_le _ _) (by omega))
        · rw [upd_same, List.take_add_one, zipI_at hxx hyy, List.map_append, List.map_append]
          rfl
      · refine .inl ⟨⟨_, _, sA, sB, .inl ?_⟩, ?_⟩
        · rw [List.length_map]
          omega
        · have e : (r.zip s).take j = r.zip s := List.take_of_length_le (by rw [List.length_zip]; omega)
          rw [e] at hD2
          refine ⟨D2, _, rfl, SqL.of hD2, ?_⟩
          refine turn_fn (xs := sumsR cc s) nD ?_ ?_ s1 hD sm
          · unfold sumsR
            rw [List.getElem?_map, hr1]
            rfl
          · unfold sumsR
            rw [List.length_map]
            omega
    · rw [List.length_map, List.take_of_length_le (by unfold sumsR; rw [List.length_map, hR.len]; exact Nat.le_refl _)] at hD
      have hsz : (sumsR cc s).length ≤ 100 := by unfold sumsR; rw [List.length_map]; exact hcz
      generalize sumsR cc s = ns at hD et hsz
      -- first
      refine ⟨.ref D, rfl, D, rfl, ⟨_, SqL.of hD⟩, fun D3 nD3 => ?_⟩
      refine lc_list (K := K) (a := D) (xs := ns.map V.int) (fun i H' => Same H1 H' ∧ H' D3 = some (.lst ((nzR (ns.take i)).map V.int))) ⟨same_new nD3, upd_same⟩ (fun i H' _ hP => SqL.of (hP.1 _ _ hD)) (fun i y H2 hy ⟨s2, hD3⟩ => ?_) (fun H2 ⟨s2, hD3⟩ => ?_)
      · obtain ⟨n, hn, rfl⟩ : ∃ n, ns[i]? = some n ∧ y = V.int n := by
          rw [List.getElem?_map] at hy
          cases e : ns[i]? with
          | none => rw [e] at hy; cases hy
          | some n => rw [e] at hy; exact ⟨n, rfl, (Option.some.inj hy).symm⟩
        have hil : i < ns.length := (List.getElem?_eq_some_iff.mp hn).1
        refine ⟨rfl, .int n, rfl, rfl, _, rfl, ite2 (fun c1 => ?_) (fun c1 => ?_)⟩
        · have nz : n ≠ 0 := fun z => by
            have c1' : (!decide (V.int n = V.int 0)) = true := c1
            rw [z, decide_eq_true rfl] at c1'
            cases c1'
          refine ⟨.int n, rfl, _, hD3, ?_, same_late s2 nD3, ?_⟩
          · rw [List.length_map]
            refine small1000 (Nat.le_trans (List.length_filter_le _ _) (Nat.le_trans (List.length_take_le _ _) (by omega)))
          · rw [upd_same, nz_take hn, if_pos nz, List.map_append]
            rfl
        · have zz : ¬ n ≠ 0 := fun nz => by
            have c1' : ¬ (!decide (V.int n = V.int 0)) = true := c1
            rw [decide_eq_false (fun w => nz (V.int.inj w))] at c1'
            exact c1' rfl
          refine ⟨s2, ?_⟩
          rw [nz_take hn, if_neg zz, List.append_nil]
          exact hD3
      · rw [List.length_map, List.take_length, et] at hD3
        refine ⟨D3, _, 0, .int t, rfl, rfl, SqL.of hD3, atI_nat (j := 0) rfl, ?_⟩
        have s12 := s1.trans s2
        refine ⟨.int t, rfl, _, _, rfl, rfl, _, rfl, ite2 (fun c1 => ?_) (fun c1 => ?_)⟩
        · have pt : 0 < t := of_decide_eq_true c1
          rw [if_pos pt] at q
          exact ⟨.ref c, rfl, q H2 c s12 (hc.same s12)⟩
        · have pt : ¬ 0 < t := fun z => c1 (decide_eq_true z)
          rw [if_neg pt] at q
          exact ⟨.ref c, rfl, c, s, rfl, hc.same s12, hz, fun H3 p3 s3 h3 => q H3 p3 (s12.trans s3) h3⟩
end
end HL

set_option pp.maxSteps 3000
namespace HL
open PySem PySem.Spec PyProof.Rows L2
open C8 (pss_cut)
/-! ### what waits: a dict of lists of triples, beside all that stays -/
abbrev Tr := List Int × List Int × List Int
abbrev En := Int × Addr × List Tr
/-- the heap without the places that are written to -/
def cutM (M : List Addr) (H : Hp) : Hp := fun b => if b ∈ M then none else H b
theorem cut_le {M : List Addr} {H : Hp} : Same (cutM M H) H := fun b o e => by
  unfold cutM at e
  by_cases c : b ∈ M
  · rw [if_pos c] at e; cases e
  · rw [if_neg c] at e; exact e
theorem cut_of {M : List Addr} {H : Hp} {b : Addr} {o : HO} (n : b ∉ M) (e : H b = some o) : cutM M H b = some o := by
  unfold cutM
  rw [if_neg n]
  exact e
theorem cut_same {M : List Addr} {H H' : Hp} (s : Same H H') : Same (cutM M H) (cutM M H') := fun b o e => by
  unfold cutM at e ⊢
  by_cases c : b ∈ M
  · rw [if_pos c] at e; cases e
  · rw [if_neg c] at e ⊢; exact s _ _ e
theorem cut_upd {M : List Addr} {H : Hp} {m : Addr} {o : HO} (h : m ∈ M) : cutM M (upd H m o) = cutM M H := by
  funext b
  unfold cutM
  by_cases c : b ∈ M
  · rw [if_pos c, if_pos c]
  · rw [if_neg c, if_neg c, upd_ne (fun z => c (by rw [z]; exact h))]
theorem cut_more {M M' : List Addr} {H : Hp} (h : ∀ b, b ∈ M' → b ∈ M ∨ H b = none) : Same (cutM M H) (cutM M' H) := fun b o e => by
  unfold cutM at e ⊢
  by_cases c : b ∈ M
  · rw [if_pos c] at e; cases e
  · rw [if_neg c] at e
    by_cases c' : b ∈ M'
    · rcases h b c' with h | h
      · exact absurd h c
      · rw [h] at e; cases e
    · rw [if_neg c']
      exact e
def TrIn (F : Hp) (v : V) (q : Tr) : Prop := ∃ t a b c : Addr, v = .ref t ∧ F t = some (.tup [.ref a, .ref b, .ref c]) ∧ IntsAt F a q.1 ∧ IntsAt F b q.2.1 ∧ IntsAt F c q.2.2
theorem TrIn.same {F F' : Hp} {v : V} {q : Tr} (h : TrIn F v q) (s : Same F F') : TrIn F' v q := by
  obtain ⟨t, a, b, c, h1, h2, h3, h4, h5⟩ := h
  exact ⟨t, a, b, c, h1, s _ _ h2, h3.same s, h4.same s, h5.same s⟩
def Trs (F : Hp) (vs : List V) (qs : List Tr) : Prop := vs.length = qs.length ∧ ∀ (i : Nat) (v : V) (q : Tr), vs[i]? = some v → qs[i]? = some q → TrIn F v q
theorem Trs.same {F F' : Hp} {vs : List V} {qs : List Tr} (h : Trs F vs qs) (s : Same F F') : Trs F' vs qs := ⟨h.1, fun i v q a b => (h.2 i v q a b).same s⟩
theorem Trs.at {F : Hp} {vs : List V} {qs : List Tr} (h : Trs F vs qs) {i : Nat} {v : V} (e : vs[i]? = some v) : ∃ q, qs[i]? = some q ∧ TrIn F v q := by
  have hi : i < qs.length := by
    rw [← h.1]
    exact (List.getElem?_eq_some_iff.mp e).1
  exact ⟨qs[i], List.getElem?_eq_getElem hi, h.2 i v _ e (List.getElem?_eq_getElem hi)⟩
theorem Trs.more {F : Hp} {vs : List V} {qs : List Tr} {v : V} {q : Tr} (h : Trs F vs qs) (x : TrIn F v q) : Trs F (vs ++ [v]) (qs ++ [q]) := by
  refine ⟨by rw [List.length_append, List.length_append, h.1]; rfl, fun i v' s' e1 e2 => ?_⟩
  by_cases c : i < vs.length
  · rw [List.getElem?_append_left c] at e1
    rw [List.getElem?_append_left (by rw [← h.1]; exact c)] at e2
    exact h.2 i v' s' e1 e2
  · rw [List.getElem?_append_right (by omega)] at e1
    rw [List.getElem?_append_right (by rw [← h.1]; omega)] at e2
    rw [← h.1] at e2
    have hi : i - vs.length = 0 := by
      have := (List.getElem?_eq_some_iff.mp e1).1
      rw [List.length_singleton] at this
      omega
    rw [hi] at e1 e2
    cases e1
    cases e2
    exact x
def mt (d : Addr) (en : List En) (A : List Addr) : List Addr := d :: (en.map (·.2.1) ++ A)
def kvE (en : List En) : List (Key × V) := en.map fun e => (Sum.inl e.1, V.ref e.2.1)
def tot (en : List En) : List Tr := en.flatMap (·.2.2)
/-- each triple waits under its own key -/
def KO (ky : Tr → Int) (en : List En) : Prop := ∀ e ∈ en, ∀ q ∈ e.2.2, ky q = e.1
def NE (en : List En) : Prop := ∀ e ∈ en, e.2.2 ≠ []
structure WD (H : Hp) (A : List Addr) (d : Addr) (en : List En) : Prop where
  nd : (mt d en A).Nodup
  dict : H d = some (.dK (kvE en))
  keys : (en.map (·.1)).Nodup
  lists : ∀ e ∈ en, ∃ vs, H e.2.1 = some (.lst vs) ∧ Trs (cutM (mt d en A) H) vs e.2.2
  live : ∀ a ∈ A, ∃ us, H a = some (.lst us)
theorem WD.all {H : Hp} {A : List Addr} {d : Addr} {en : List En} (W : WD H A d en) : ∀ b ∈ mt d en A, ∃ o, H b = some o := fun b hb => by
  unfold mt at hb
  rcases List.mem_cons.mp hb with e | hb
  · rw [e]; exact ⟨_, W.dict⟩
  rcases List.mem_append.mp hb with hb | hb
  · obtain ⟨e, he, rfl⟩ := List.mem_map.mp hb
    obtain ⟨vs, h, _⟩ := W.lists e he
    exact ⟨_, h⟩
  · obtain ⟨us, h⟩ := W.live b hb
    exact ⟨_, h⟩
theorem WD.fresh {H : Hp} {A : List Addr} {d : Addr} {en : List En} (W : WD H A d en) {z : Addr} (n : H z = none) : z ∉ mt d en A := fun h => by
  obtain ⟨o, e⟩ := W.all z h
  rw [n] at e
  cases e
theorem WD.same {H H' : Hp} {A : List Addr} {d : Addr} {en : List En} (W : WD H A d en) (s : Same H H') : WD H' A d en where
  nd := W.nd
  dict := s _ _ W.dict
  keys := W.keys
  lists e he := by
    obtain ⟨vs, h, t⟩ := W.lists e he
    exact ⟨vs, s _ _ h, t.same (cut_same s)⟩
  live a ha := by
    obtain ⟨o, e⟩ := W.live a ha
    exact ⟨o, s _ _ e⟩
theorem val_kv {en : List En} {k : Int} {v : V} (h : valV (kvE en) (Sum.inl k : Key) = some v) : ∃ e ∈ en, e.1 = k ∧ v = .ref e.2.1 := by
  unfold valV at h
  cases f : (kvE en).find? (fun kv => decide (kv.1 = (Sum.inl k : Key))) with
  | none => rw [f] at h; cases h
  | some p =>
    rw [f] at h
    have hm := List.mem_of_find?_eq_some f
    have hp := List.find?_some f
    unfold kvE at hm
    obtain ⟨e, he, rfl⟩ := List.mem_map.mp hm
    refine ⟨e, he, ?_, (Option.some.inj h).symm⟩
    have : (Sum.inl e.1 : Key) = Sum.inl k := of_decide_eq_true hp
    exact Sum.inl.inj this
theorem tot_len {en : List En} : (tot en).length = (en.map fun e => e.2.2.length).sum := by
  unfold tot
  rw [List.length_flatMap]
theorem en_le {en : List En} (h : NE en) : en.length ≤ (tot en).length := by
  unfold tot
  induction en with
  | nil => exact Nat.le_refl _
  | cons e en ih =>
    rw [List.flatMap_cons, List.length_append, List.length_cons]
    have h1 := ih fun x hx => h x (List.mem_cons_of_mem _ hx)
    have h2 : 0 < e.2.2.length := List.length_pos_iff.mpr (h e List.mem_cons_self)
    omega
theorem WD.tup {H : Hp} {A : List Addr} {d : Addr} {en : List En} (W : WD H A d en) {p : Addr} {o : HO} (h : H p = some o) (h1 : ∀ us, o ≠ .lst us) (h2 : ∀ ks, o ≠ .dK ks) : p ∉ mt d en A := fun hb => by
  unfold mt at hb
  rcases List.mem_cons.mp hb with e | hb
  · rw [e, W.dict] at h
    exact h2 _ (Option.some.inj h).symm
  rcases List.mem_append.mp hb with hb | hb
  · obtain ⟨e, he, rfl⟩ := List.mem_map.mp hb
    obtain ⟨vs, h', _⟩ := W.lists e he
    rw [h'] at h
    exact h1 _ (Option.some.inj h).symm
  · obtain ⟨us, h'⟩ := W.live _ hb
    rw [h'] at h
    exact h1 _ (Option.some.inj h).symm
theorem WD.ints {H : Hp} {A : List Addr} {d : Addr} {en : List En} (W : WD H A d en) {p : Addr} {r : List Int} (h : IntsAt H p r) : IntsAt (cutM (mt d en A) H) p r := cut_of (W.tup h (fun _ z => by cases z) (fun _ z => by cases z)) h
theorem WD.rows {H : Hp} {A : List Addr} {d : Addr} {en : List En} (W : WD H A d en) {as : List Addr} {ll : List (List Int)} (h : Rows H as ll) : Rows (cutM (mt d en A) H) as ll := h.mono fun a xs e => cut_of (W.tup e (fun _ z => by cases z) (fun _ z => by cases z)) e
/-- the list beside the dict is written to -/
theorem WD.put {H : Hp} {a d : Addr} {en : List En} (W : WD H [a] d en) (us : List V) : WD (upd H a (.lst us)) [a] d en ∧ cutM (mt d en [a]) (upd H a (.lst us)) = cutM (mt d en [a]) H := by
  have ha : a ∈ mt d en [a] := by unfold mt; simp
  have nd := W.nd
  unfold mt at nd
  obtain ⟨n1, n2⟩ := List.nodup_cons.mp nd
  obtain ⟨n3, n4, n5⟩ := List.nodup_append.mp n2
  have ec := cut_upd (H := H) (o := .lst us) ha
  refine ⟨⟨W.nd, ?_, W.keys, ?_, ?_⟩, ec⟩
  · rw [upd_ne (fun z => n1 (List.mem_append_right _ (by rw [z]; exact List.mem_singleton.mpr rfl)))]
    exact W.dict
  · intro e he
    obtain ⟨vs, h1, h2⟩ := W.lists e he
    refine ⟨vs, ?_, by rw [ec]; exact h2⟩
    rw [upd_ne (fun z => n5 _ (List.mem_map_of_mem he) a (List.mem_singleton.mpr rfl) z)]
    exact h1
  · intro b hb
    rw [List.mem_singleton.mp hb]
    exact ⟨us, upd_same⟩
/-- another state of what waits: how the heap may have moved on -/
structure Mv (H : Hp) (A : List Addr) (d : Addr) (en : List En) (H' : Hp) (en' : List En) : Prop where
  wd : WD H' A d en'
  cut : Same (cutM (mt d en A) H) (cutM (mt d en' A) H')
  oth : ∀ a ∈ A, H' a = H a
theorem Mv.refl {H : Hp} {A : List Addr} {d : Addr} {en : List En} (W : WD H A d en) : Mv H A d en H en := ⟨W, Same.refl _, fun _ _ => rfl⟩
theorem Mv.trans {H H1 H2 : Hp} {A : List Addr} {d : Addr} {en en1 en2 : List En} (a : Mv H A d en H1 en1) (b : Mv H1 A d en1 H2 en2) : Mv H A d en H2 en2 := ⟨b.wd, a.cut.trans b.cut, fun x hx => (b.oth x hx).trans (a.oth x hx)⟩
theorem Mv.same {H H' : Hp} {A : List Addr} {d : Addr} {en : List En} (W : WD H A d en) (s : Same H H') : Mv H A d en H' en := ⟨W.same s, cut_same s, fun a ha => by
  obtain ⟨o, e⟩ := W.live a ha
  rw [e, s _ _ e]⟩
/-- one more triple waits -/
theorem add_some {H : Hp} {A : List Addr} {d : Addr} {en : List En} (W : WD H A d en) {e : En} (he : e ∈ en) {t x y w : Addr} {q : Tr} (nt : H t = none) (hx : IntsAt (cutM (mt d en A) H) x q.1) (hy : IntsAt (cutM (mt d en A) H) y q.2.1) (hw : IntsAt (cutM (mt d en A) H) w q.2.2) {vs : List V} (hv : H e.2.1 = some (.lst vs)) :
    ∃ en', Mv H A d en (upd (upd H t (.tup [.ref x, .ref y, .ref w])) e.2.1 (.lst (vs ++ [.ref t]))) en' ∧ ((∀ e' ∈ en, e'.2.1 ≠ e.2.1 → e'.2.2 ≠ []) → NE en') ∧ (tot en').length = (tot en).length + 1 ∧ (∀ q', q' ∈ tot en' ↔ q' ∈ tot en ∨ q' = q) ∧ ∀ ky, KO ky en → ky q = e.1 → KO ky en' := by
  obtain ⟨en1, en2, rfl⟩ := List.append_of_mem he
  have s1 := same_new (o := .tup [V.ref x, .ref y, .ref w]) nt
  have W1 := W.same s1
  generalize eH : upd H t (.tup [V.ref x, .ref y, .ref w]) = H1 at s1 W1 ⊢
  have ht : H1 t = some (.tup [V.ref x, .ref y, .ref w]) := by rw [← eH]; exact upd_same
  have emt : mt d (en1 ++ (e.1, e.2.1, e.2.2 ++ [q]) :: en2) A = mt d (en1 ++ e :: en2) A := by
    unfold mt
    simp
  have hl : e.2.1 ∈ mt d (en1 ++ e :: en2) A := by
    unfold mt
    simp
  have hcut : cutM (mt d (en1 ++ e :: en2) A) (upd H1 e.2.1 (.lst (vs ++ [.ref t]))) = cutM (mt d (en1 ++ e :: en2) A) H1 := cut_upd hl
  have sc := cut_same (M := mt d (en1 ++ e :: en2) A) s1
  have nd := W.nd
  have ndl : ∀ e' : En, e' ∈ en1 ∨ e' ∈ en2 → e'.2.1 ≠ e.2.1 := fun e' h z => by
    unfold mt at nd
    have n1 := (List.nodup_append.mp (List.nodup_cons.mp nd).2).1
    rw [List.map_append, List.map_cons] at n1
    obtain ⟨a1, a2, a3⟩ := List.nodup_append.mp n1
    rcases h with h | h
    · exact a3 _ (List.mem_map_of_mem h) _ List.mem_cons_self z
    · exact (List.nodup_cons.mp a2).1 (by rw [← z]; exact List.mem_map_of_mem h)
  have ndd : d ≠ e.2.1 := fun z => by
    unfold mt at nd
    exact (List.nodup_cons.mp nd).1 (by rw [z]; simp)
  have ndA : ∀ a ∈ A, a ≠ e.2.1 := fun a ha z => by
    unfold mt at nd
    have := (List.nodup_append.mp (List.nodup_cons.mp nd).2).2.2
    exact this _ (List.mem_map_of_mem (List.mem_append_right _ List.mem_cons_self)) _ ha z.symm
  refine ⟨en1 ++ (e.1, e.2.1, e.2.2 ++ [q]) :: en2, ⟨⟨by rw [emt]; exact nd, ?_, ?_, ?_, ?_⟩, ?_, ?_⟩, ?_, ?_, ?_, ?_⟩
  · rw [upd_ne ndd]
    have := W1.dict
    have ek : kvE (en1 ++ (e.1, e.2.1, e.2.2 ++ [q]) :: en2) = kvE (en1 ++ e :: en2) := by
      unfold kvE
      simp
    rw [ek]
    exact this
  · have := W.keys
    simpa using this
  · intro e' he'
    rw [emt, hcut]
    rcases List.mem_append.mp he' with h | h
    · obtain ⟨vs', h1, h2⟩ := W1.lists e' (List.mem_append_left _ h)
      exact ⟨vs', by rw [upd_ne (ndl e' (.inl h))]; exact h1, h2⟩
    · rcases List.mem_cons.mp h with h | h
      · subst h
        obtain ⟨vs', h1, h2⟩ := W1.lists e he
        have ev : vs' = vs := by
          rw [s1 _ _ hv] at h1
          cases h1
          rfl
        subst ev
        refine ⟨_, upd_same, h2.more ⟨t, x, y, w, rfl, ?_, hx.same sc, hy.same sc, hw.same sc⟩⟩
        exact cut_of (W.fresh nt) ht
      · obtain ⟨vs', h1, h2⟩ := W1.lists e' (List.mem_append_right _ (List.mem_cons_of_mem _ h))
        exact ⟨vs', by rw [upd_ne (ndl e' (.inr h))]; exact h1, h2⟩
  · intro a ha
    obtain ⟨o, h⟩ := W1.live a ha
    exact ⟨o, by rw [upd_ne (ndA a ha)]; exact h⟩
  · rw [emt, hcut]
    exact sc
  · intro a ha
    obtain ⟨o, h⟩ := W.live a ha
    rw [upd_ne (ndA a ha), s1 _ _ h, h]
  · intro hne e' he'
    rcases List.mem_append.mp he' with h | h
    · exact hne e' (List.mem_append_left _ h) (ndl e' (.inl h))
    · rcases List.mem_cons.mp h with h | h
      · subst h
        simp
      · exact hne e' (List.mem_append_right _ (List.mem_cons_of_mem _ h)) (ndl e' (.inr h))
  · unfold tot
    simp
    omega
  · intro q'
    unfold tot
    simp only [List.mem_flatMap, List.mem_append, List.mem_cons]
    constructor
    · rintro ⟨e', h | h | h, hq⟩
      · exact .inl ⟨e', .inl h, hq⟩
      · subst h
        rcases List.mem_append.mp hq with hq | hq
        · exact .inl ⟨e, .inr (.inl rfl), hq⟩
        · exact .inr (List.mem_singleton.mp hq)
      · exact .inl ⟨e', .inr (.inr h), hq⟩
    · rintro (⟨e', h | h | h, hq⟩ | rfl)
      · exact ⟨e', .inl h, hq⟩
      · subst h
        exact ⟨_, .inr (.inl rfl), List.mem_append_left _ hq⟩
      · exact ⟨e', .inr (.inr h), hq⟩
      · exact ⟨_, .inr (.inl rfl), List.mem_append_right _ (List.mem_singleton.mpr rfl)⟩
  · intro ky hk hq e' he'
    rcases List.mem_append.mp he' with h | h
    · exact hk e' (List.mem_append_left _ h)
    · rcases List.mem_cons.mp h with h | h
      · subst h
        intro q' hq'
        rcases List.mem_append.mp hq' with c | c
        · exact hk e he q' c
        · rw [List.mem_singleton.mp c]
          exact hq
      · exact hk e' (List.mem_append_right _ (List.mem_cons_of_mem _ h))
theorem add_none {H : Hp} {A : List Addr} {d : Addr} {en : List En} (W : WD H A d en) {k : Int} (hk : valV (kvE en) (Sum.inl k : Key) = none) {z : Addr} (nz : H z = none) :
    Mv H A d en (upd (upd H z (.lst [])) d (.dK (putK (kvE en) (Sum.inl k) (.ref z)))) (en ++ [(k, z, [])]) := by
  have fz := W.fresh nz
  have nzd : z ≠ d := fun e => by rw [e, W.dict] at nz; cases nz
  have val : ∀ {b : Addr} {o : HO}, H b = some o → b ≠ d → (upd (upd H z (.lst [])) d (.dK (putK (kvE en) (Sum.inl k) (.ref z)))) b = some o := fun {b o} e hd => by
    have n1 := ne_of_none e nz
    rw [upd_ne hd, upd_ne n1]
    exact e
  have emt : mt d (en ++ [(k, z, [])]) A = d :: (en.map (·.2.1) ++ (z :: A)) := by
    unfold mt
    simp
  have inM : ∀ b, b ∈ mt d (en ++ [(k, z, [])]) A ↔ b ∈ mt d en A ∨ b = z := fun b => by
    rw [emt]
    unfold mt
    simp only [List.mem_cons, List.mem_append]
    constructor
    · rintro (h | h | h | h)
      · exact .inl (.inl h)
      · exact .inl (.inr (.inl h))
      · exact .inr h
      · exact .inl (.inr (.inr h))
    · rintro ((h | h | h) | h)
      · exact .inl h
      · exact .inr (.inl h)
      · exact .inr (.inr (.inr h))
      · exact .inr (.inr (.inl h))
  have sc : Same (cutM (mt d en A) H) (cutM (mt d (en ++ [(k, z, [])]) A) (upd (upd H z (.lst [])) d (.dK (putK (kvE en) (Sum.inl k) (.ref z))))) := fun b o e => by
    have hb : b ∉ mt d en A := fun h => by
      unfold cutM at e
      rw [if_pos h] at e
      cases e
    have e' := cut_le _ _ e
    have nbz := ne_of_none e' nz
    refine cut_of (fun h => ?_) (val e' fun hd => hb (by rw [hd]; unfold mt; exact List.mem_cons_self))
    rcases (inM b).mp h with h | h
    · exact hb h
    · exact nbz h
  have nd := W.nd
  have kn : k ∉ en.map (·.1) := fun h => by
    obtain ⟨e, he, hek⟩ := List.mem_map.mp h
    refine valV_not hk ?_
    unfold kvE
    rw [List.map_map]
    exact List.mem_map.mpr ⟨e, he, by show Sum.inl e.1 = _; rw [hek]⟩
  have nda : ∀ e ∈ en, e.2.1 ≠ d := fun e he z => by
    unfold mt at nd
    exact (List.nodup_cons.mp nd).1 (List.mem_append_left _ (by rw [← z]; exact List.mem_map_of_mem he))
  have ndA : ∀ a ∈ A, a ≠ d := fun a ha z => by
    unfold mt at nd
    exact (List.nodup_cons.mp nd).1 (List.mem_append_right _ (by rw [← z]; exact ha))
  refine ⟨⟨?_, ?_, ?_, ?_, ?_⟩, sc, ?_⟩
  · rw [emt]
    unfold mt at nd fz
    obtain ⟨n1, n2⟩ := List.nodup_cons.mp nd
    obtain ⟨n3, n4, n5⟩ := List.nodup_append.mp n2
    refine List.nodup_cons.mpr ⟨fun h => ?_, List.nodup_append.mpr ⟨n3, List.nodup_cons.mpr ⟨fun h => fz (List.mem_cons_of_mem _ (List.mem_append_right _ h)), n4⟩, fun a ha b hb => ?_⟩⟩
    · rcases List.mem_append.mp h with h | h
      · exact n1 (List.mem_append_left _ h)
      · rcases List.mem_cons.mp h with h | h
        · exact nzd h.symm
        · exact n1 (List.mem_append_right _ h)
    · rcases List.mem_cons.mp hb with h | h
      · intro e
        exact fz (List.mem_cons_of_mem _ (List.mem_append_left _ (by rw [← h, ← e]; exact ha)))
      · exact n5 a ha b h
  · rw [upd_same, putK_new _ hk]
    unfold kvE
    rw [List.map_append]
    rfl
  · rw [List.map_append]
    exact nd_snoc W.keys kn
  · intro e he
    rcases List.mem_append.mp he with h | h
    · obtain ⟨vs, h1, h2⟩ := W.lists e h
      exact ⟨vs, val h1 (nda e h), h2.same sc⟩
    · rw [List.mem_singleton.mp h]
      exact ⟨[], by rw [upd_ne nzd, upd_same], rfl, fun i v q' h1 => by simp at h1⟩
  · intro a ha
    obtain ⟨o, h⟩ := W.live a ha
    exact ⟨o, val h (ndA a ha)⟩
  · intro a ha
    obtain ⟨o, h⟩ := W.live a ha
    rw [val h (ndA a ha), h]
theorem app_setd {K : PySem.W.Frag} {H : Hp} {A : List Addr} {d : Addr} {en : List En} {i : Nat} {ty : TE} {ta : TA} {σ : L2.St} {Q : VK} {kk : Int} (W : WD H A d en) (N : NE en) (hi : σ[i]? = some (some (.ref d))) (hy : ∀ QQ : VK, QQ (.int kk) H → ty σ H QQ) (hz : (tot en).length < sizeLine)
    (h : ∀ (l : Addr) (vs : List V) (H4 : Hp), H4 l = some (.lst vs) → vs.length ≤ (tot en).length → Same (cutM (mt d en A) H) H4 → (∀ (H5 : Hp) (t x y w : Addr) (q : Tr), Same H4 H5 → H5 t = none → IntsAt H5 x q.1 → IntsAt H5 y q.2.1 → IntsAt H5 w q.2.2 →
      ∃ en', Mv H A d en (upd (upd H5 t (.tup [.ref x, .ref y, .ref w])) l (.lst (vs ++ [.ref t]))) en' ∧ NE en' ∧ (tot en').length = (tot en).length + 1 ∧ (∀ q', q' ∈ tot en' ↔ q' ∈ tot en ∨ q' = q) ∧ ∀ ky, KO ky en → ky q = kk → KO ky en') → ta σ H4 fun xs H5 => rAppend (.ref l) xs H5 Q) :
    tBM K "list" rAppend (tDSetd (tVar i) ty (tLst tNil)) ta σ H Q := by
  refine ⟨.ref d, hi, d, rfl, .inl ⟨_, .inl W.dict⟩, hy _ ⟨Nat.zero_le _, fun z nz => ?_⟩⟩
  have s1 := same_new (o := .lst []) nz
  have nzd : z ≠ d := fun e => by rw [e, W.dict] at nz; cases nz
  refine ⟨kvE en, Sum.inl kk, s1 _ _ W.dict, rfl, ?_, fun v hv => ?_, fun hv => ?_⟩
  · have := en_le N
    unfold kvE
    rw [List.length_map]
    omega
  · obtain ⟨e, he, hek, rfl⟩ := val_kv hv
    obtain ⟨vs, h1, h2⟩ := W.lists e he
    refine ⟨.inl ⟨rfl, _, SqL.of (s1 _ _ h1)⟩, h e.2.1 vs _ (s1 _ _ h1) ?_ (cut_le.trans s1) fun H5 t x y w q s5 nt hx hy hw => ?_⟩
    · rw [h2.1]
      obtain ⟨a, b, rfl⟩ := List.append_of_mem he
      unfold tot
      simp
      omega
    · have M1 := Mv.same W (s1.trans s5)
      have W5 := M1.wd
      obtain ⟨en', m, l0, l1, l2, l3⟩ := add_some W5 he nt (W5.ints hx) (W5.ints hy) (W5.ints hw) (s5 _ _ (s1 _ _ h1))
      exact ⟨en', M1.trans m, l0 (fun e' he' _ => N e' he'), l1, l2, fun ky a b => l3 ky a (b.trans hek.symm)⟩
  · have M1 := add_none W hv nz
    refine ⟨.inl ⟨rfl, _, SqL.of (show _ = some (HO.lst []) by rw [upd_ne nzd, upd_same])⟩, h z [] _ (by rw [upd_ne nzd, upd_same]) (Nat.zero_le _) (M1.cut.trans cut_le) fun H5 t x y w q s5 nt hx hy hw => ?_⟩
    have M2 := M1.trans (Mv.same M1.wd s5)
    have W5 := M2.wd
    have he : ((kk, z, []) : En) ∈ en ++ [(kk, z, [])] := List.mem_append_right _ (List.mem_singleton.mpr rfl)
    obtain ⟨en', m, l0, l1, l2, l3⟩ := add_some W5 he nt (W5.ints hx) (W5.ints hy) (W5.ints hw) (s5 _ _ (show _ = some (HO.lst []) by rw [upd_ne nzd, upd_same]))
    have et : tot (en ++ [(kk, z, [])]) = tot en := by
      unfold tot
      simp
    rw [et] at l1
    refine ⟨en', M2.trans m, l0 (fun e' he' hne => ?_), l1, fun q' => by rw [l2 q', et], fun ky a b => l3 ky (fun e' he' => by
      rcases List.mem_append.mp he' with h | h
      · exact a e' h
      · rw [List.mem_singleton.mp h]
        intro q' hq'
        cases hq') b⟩
    rcases List.mem_append.mp he' with h' | h'
    · exact N e' h'
    · rw [List.mem_singleton.mp h'] at hne
      exact absurd rfl hne
/-- what is popped: its list stays, and may be read -/
theorem pop_key {H : Hp} {A : List Addr} {d : Addr} {en : List En} (W : WD H A d en) (N : NE en) {k : Int} (hk : k ∈ en.map (·.1)) :
    ∃ (e : En) (en' : List En) (vs : List V), valV (kvE en) (Sum.inl k : Key) = some (.ref e.2.1) ∧ Mv H A d en (upd H d (.dK (dropK (kvE en) (Sum.inl k)))) en' ∧ (upd H d (.dK (dropK (kvE en) (Sum.inl k)))) e.2.1 = some (.lst vs) ∧ e.2.1 ∉ mt d en' A ∧ Trs (cutM (mt d en' A) (upd H d (.dK (dropK (kvE en) (Sum.inl k))))) vs e.2.2 ∧ e.2.2 ≠ [] ∧ NE en' ∧
      (tot en').length + e.2.2.length = (tot en).length ∧ (∀ q, q ∈ tot en ↔ q ∈ tot en' ∨ q ∈ e.2.2) ∧ e ∈ en ∧ e.1 = k ∧ ∀ x ∈ en', x ∈ en := by
  obtain ⟨e, he, rfl⟩ := List.mem_map.mp hk
  obtain ⟨en1, en2, rfl⟩ := List.append_of_mem he
  have nd := W.nd
  have kn := W.keys
  rw [List.map_append, List.map_cons] at kn
  obtain ⟨k1, k2, k3⟩ := List.nodup_append.mp kn
  have kn1 : ∀ e' ∈ en1, e'.1 ≠ e.1 := fun e' h => k3 _ (List.mem_map_of_mem h) _ List.mem_cons_self
  have kn2 : ∀ e' ∈ en2, e'.1 ≠ e.1 := fun e' h z => (List.nodup_cons.mp k2).1 (by rw [← z]; exact List.mem_map_of_mem h)
  have ev : valV (kvE (en1 ++ e :: en2)) (Sum.inl e.1 : Key) = some (.ref e.2.1) := by
    cases h : valV (kvE (en1 ++ e :: en2)) (Sum.inl e.1 : Key) with
    | none =>
      exfalso
      refine valV_not h ?_
      unfold kvE
      rw [List.map_map]
      exact List.mem_map.mpr ⟨e, he, rfl⟩
    | some v =>
      obtain ⟨e', he', h1, rfl⟩ := val_kv h
      rcases List.mem_append.mp he' with h' | h'
      · exact absurd h1 (kn1 e' h')
      · rcases List.mem_cons.mp h' with h' | h'
        · rw [h']
        · exact absurd h1 (kn2 e' h')
  have ed : dropK (kvE (en1 ++ e :: en2)) (Sum.inl e.1 : Key) = kvE (en1 ++ en2) := by
    unfold dropK kvE
    rw [List.map_append, List.map_cons, List.filter_append, List.filter_cons, if_neg (by simp), List.map_append]
    congr 1
    · exact List.filter_eq_self.mpr fun p hp => by
        obtain ⟨e', he', rfl⟩ := List.mem_map.mp hp
        exact decide_eq_true fun z => kn1 e' he' (Sum.inl.inj z)
    · exact List.filter_eq_self.mpr fun p hp => by
        obtain ⟨e', he', rfl⟩ := List.mem_map.mp hp
        exact decide_eq_true fun z => kn2 e' he' (Sum.inl.inj z)
  have subM : ∀ b, b ∈ mt d (en1 ++ en2) A → b ∈ mt d (en1 ++ e :: en2) A := fun b hb => by
    unfold mt at hb ⊢
    simp only [List.mem_cons, List.mem_append, List.map_append, List.map_cons] at hb ⊢
    rcases hb with h | (h | h) | h
    · exact .inl h
    · exact .inr (.inl (.inl h))
    · exact .inr (.inl (.inr (.inr h)))
    · exact .inr (.inr h)
  have neM : e.2.1 ∉ mt d (en1 ++ en2) A := fun h => by
    unfold mt at nd h
    obtain ⟨n1, n2⟩ := List.nodup_cons.mp nd
    obtain ⟨n3, n4, n5⟩ := List.nodup_append.mp n2
    rcases List.mem_cons.mp h with h | h
    · exact n1 (by rw [← h]; simp)
    · rcases List.mem_append.mp h with h | h
      · rw [List.map_append, List.map_cons] at n3
        obtain ⟨m1, m2, m3⟩ := List.nodup_append.mp n3
        rw [List.map_append] at h
        rcases List.mem_append.mp h with h | h
        · exact m3 _ h _ List.mem_cons_self rfl
        · exact (List.nodup_cons.mp m2).1 h
      · exact n5 e.2.1 (by simp) e.2.1 h rfl
  have ned : e.2.1 ≠ d := fun z => neM (by rw [z]; unfold mt; exact List.mem_cons_self)
  have dM : d ∈ mt d (en1 ++ en2) A := by unfold mt; exact List.mem_cons_self
  have sc : Same (cutM (mt d (en1 ++ e :: en2) A) H) (cutM (mt d (en1 ++ en2) A) (upd H d (.dK (dropK (kvE (en1 ++ e :: en2)) (Sum.inl e.1))))) := by
    rw [cut_upd dM]
    exact cut_more fun b hb => .inl (subM b hb)
  have nda : ∀ e' ∈ en1 ++ e :: en2, e'.2.1 ≠ d := fun e' he' z => by
    unfold mt at nd
    exact (List.nodup_cons.mp nd).1 (List.mem_append_left _ (by rw [← z]; exact List.mem_map_of_mem he'))
  have ndA : ∀ a ∈ A, a ≠ d := fun a ha z => by
    unfold mt at nd
    exact (List.nodup_cons.mp nd).1 (List.mem_append_right _ (by rw [← z]; exact ha))
  have sub2 : ∀ e', e' ∈ en1 ++ en2 → e' ∈ en1 ++ e :: en2 := fun e' h => by
    rcases List.mem_append.mp h with h | h
    · exact List.mem_append_left _ h
    · exact List.mem_append_right _ (List.mem_cons_of_mem _ h)
  obtain ⟨vs, hv1, hv2⟩ := W.lists e he
  refine ⟨e, en1 ++ en2, vs, ev, ⟨⟨?_, ?_, ?_, ?_, ?_⟩, sc, ?_⟩, by rw [upd_ne ned]; exact hv1, neM, hv2.same sc, N e he, fun e' he' => N e' (sub2 e' he'), ?_, ?_, he, rfl, sub2⟩
  · unfold mt at nd ⊢
    refine List.Nodup.sublist ?_ nd
    refine List.Sublist.cons₂ _ (List.Sublist.append ?_ (List.Sublist.refl _))
    rw [List.map_append, List.map_append, List.map_cons]
    exact List.Sublist.append (List.Sublist.refl _) (List.sublist_cons_self _ _)
  · rw [upd_same, ed]
  · have := W.keys
    refine List.Nodup.sublist ?_ this
    rw [List.map_append, List.map_append, List.map_cons]
    exact List.Sublist.append (List.Sublist.refl _) (List.sublist_cons_self _ _)
  · intro e' he'
    obtain ⟨vs', h1, h2⟩ := W.lists e' (sub2 e' he')
    exact ⟨vs', by rw [upd_ne (nda e' (sub2 e' he'))]; exact h1, h2.same sc⟩
  · intro a ha
    obtain ⟨o, h⟩ := W.live a ha
    exact ⟨o, by rw [upd_ne (ndA a ha)]; exact h⟩
  · intro a ha
    rw [upd_ne (ndA a ha)]
  · unfold tot
    simp
    omega
  · intro q
    unfold tot
    simp only [List.mem_flatMap, List.mem_append, List.mem_cons]
    constructor
    · rintro ⟨e', h | h | h, hq⟩
      · exact .inl ⟨e', .inl h, hq⟩
      · subst h
        exact .inr hq
      · exact .inl ⟨e', .inr h, hq⟩
    · rintro (⟨e', h | h, hq⟩ | hq)
      · exact ⟨e', .inl h, hq⟩
      · exact ⟨e', .inr (.inr h), hq⟩
      · exact ⟨e, .inr (.inl rfl), hq⟩
end HL

set_option pp.maxSteps 3000
namespace HL
open PySem PySem.Spec PyProof.Rows L2
open C8 (pss_cut)
open RZ (pi_zipA ItzT iZipA)
open BL (abv ngR askL askLi fitB vec RowOk StR inS St1 muv fit_iff step_pos row_step)
theorem scSd : FnScope ["lot", "bound", "many", "waiting", "kind", "hold", "hamper", "unpacking"] ["lot", "bound"] (defScope sSeeds) := ⟨rfl, rfl, rfl, by decide +kernel, rfl, by decide +kernel, by decide +kernel⟩
section
variable {P : Program} {w : World} {K : PySem.W.Frag} {mg : Str → Option Value} {base : Heap}
theorem rep0_readm {K : PySem.W.Frag} {H : Hp} {t : Addr} {n : Nat} {m : Int} {Q : VK} (ht : H t = some (.tup [.int 0])) (hm : m = (n : Int)) (n1 : 1 ≤ n) (n2 : n ≤ 1000) (q : ∀ p H', Same H H' → IntsAt H' p (zeros n) → Q (.ref p) H') : rRepA K (.ref t) (.int m) H Q := by
  subst hm
  exact rep0_read ht n1 n2 q
theorem sz_3 (u v w : V) : [u, v, w].length ≤ sizeLine := by
  show 3 ≤ sizeLine
  decide
def nOf (ll : List (List Int)) : Nat := ll.length + width ll
def seed1 (ll : List (List Int)) (k : Nat) : Tr := (unI k (nOf ll), zeros (nOf ll), subR (unI k (nOf ll)) (zeros ll.length ++ ll.getD k []) 1)
def seedN (ll : List (List Int)) (b : List Int) (i : Nat) : List Tr := (List.range i).flatMap fun k => if coversB b (ll.getD k []) = true then [seed1 ll k] else []
theorem seedN_more {ll : List (List Int)} {b : List Int} {i : Nat} : seedN ll b (i + 1) = seedN ll b i ++ if coversB b (ll.getD i []) = true then [seed1 ll i] else [] := by
  unfold seedN
  rw [List.range_succ, List.flatMap_append]
  simp
def spSeeds : Sp := fun vs H Q _ => ∃ (p bd : Addr) (as : List Addr) (ll : List (List Int)) (b : List Int), vs = [.ref p, .ref bd] ∧ RowsAt H p as ll ∧ flaw ll = none ∧ IntsAt H bd b ∧ b.length = width ll ∧
  ∀ H' d en, Same H (cutM (mt d en []) H') → WD H' [] d en → NE en → (tot en).length ≤ ll.length → (∀ q, q ∈ tot en ↔ q ∈ seedN ll b ll.length) → (∀ ky : Tr → Int, (∀ i, i < ll.length → ky (seed1 ll i) = (ll.getD i []).sum) → KO ky en) → Q (.ref d) H'
theorem ok_seeds {f : Addr} {fd : FuncData} (F : Fun K "seeds_of" "seeds_of" sSeeds f fd) (B : Bl mg) (CG : Cal P w K mg base CX0 3 "goods_of" ["lot"] spGoods0) (CU : Cal P w K mg base CX0 1 "unit" ["place", "many"] spUnit) (CC : Cal P w K mg base CX0 1 "covers" ["row", "other"] (spCovers K)) (CLe : CalLess P w K mg base) :
    FnOk P w K mg base CX0 4 f fd ["lot", "bound"] spSeeds := by
  obtain ⟨fG, fdG, GG, gG, kG, bG⟩ := CG.ex
  obtain ⟨fU, fdU, GU, gU, kU, bU⟩ := CU.ex
  obtain ⟨fC, fdC, GC, gC, kC, bC⟩ := CC.ex
  obtain ⟨fL, fdL, tL, GL, gL, kL, bL⟩ := CLe
  have vd : Vals [V.int 1] [Value.int 1 tL] := .cons ⟨_, rfl⟩ .nil
  refine F.ok scSd (fun vs H Q E h => ?_) (fun cdv A outer s H vs Q E hr h => ?_)
  · obtain ⟨p, bd, as, ll, b, rfl, _⟩ := h
    rfl
  · obtain ⟨p, bd, as, ll, b, rfl, R, ef, hB, hbl, q⟩ := h
    have hok := flaw_ok ef
    have hlen := R.2.len
    have hrows := flaw_rows ef
    refine ⟨_, (pss_cons (ps_set (i := 2) scSd.nd rfl (.inl rfl) (pe_op op_add (pe_callB call_len_seq (by rfl) B.len PySem.boot_len (pa_cons (pv 0) pa_nil)) (pe_call GG (hr.mono (by decide)) (by rfl) gG kG bG .nil pass0 (pa_cons (pv 0) pa_nil))))
      (pss_cons (ps_set (i := 3) scSd.nd rfl (.inl rfl) pe_dnewK)
      (pss_cons (ps_for PassesOwn.never rfl (pi_enumT (by rfl) B.enumerate (pa_cons (pv 0) pa_nil)) (pg_tup rfl (pgs_cons (pg_name (i := 4) scSd.nd rfl (.inl rfl)) (pgs_cons (pg_name (i := 5) scSd.nd rfl (.inl rfl)) pgs_nil)))
      (pss_one (ps_if (pt_val (pe_call GC (hr.mono (by decide)) (by rfl) gC kC bC .nil pass0 (pa_cons (pv 1) (pa_cons (pv 5) pa_nil)))) (pss_cons (ps_set (i := 6) scSd.nd rfl (.inl rfl) (pe_call GU (hr.mono (by decide)) (by rfl) gU kU bU .nil pass0 (pa_cons (pv 4) (pa_cons (pv 2) pa_nil))))
      (pss_cons (ps_set (i := 7) scSd.nd rfl (.inl rfl) (pe_call GL (hr.mono (by decide)) (by rfl) gL kL bL vd pass0 (pa_cons (pv 6) (pa_cons (pe_op op_catA (pe_op op_repA (pe_tup (pa_cons pe_int pa_nil)) (pe_callB call_len_seq (by rfl) B.len PySem.boot_len (pa_cons (pv 0) pa_nil))) (pv 5)) pa_nil))))
      (pss_one (ps_expr (pe_bm PySem.F.plainAttrs_list PySem.F.slot_list_append PySem.F.type_list_append mt_append (pe_dsetd (pv 3) (pe_callB (cr_sumT rfl) (by rfl) B.sum (by decide +kernel) (pa_cons (pv 5) pa_nil)) (pe_lst pa_nil) ⟨rfl, rfl, rfl, rfl⟩) (pa_cons (pe_tup (pa_cons (pv 6) (pa_cons (pe_op op_repA (pe_tup (pa_cons pe_int pa_nil)) (pv 2)) (pa_cons (pv 7) pa_nil)))) pa_nil)))))) pss_nil)))
      (pss_one (ps_ret (pv 3)))))), ?_⟩
    refine ⟨.ref p, rfl, p, _, rfl, .inr (SqT.of R.1), ?_⟩
    rw [List.length_map, hlen]
    refine ⟨.ref p, rfl, p, as, ll, rfl, R, ef, fun H1 s1 => ⟨_, _, rfl, rfl, fun d nd => ?_⟩⟩
    have en0 : (ll.length : Int) + ((width ll : Nat) : Int) = ((nOf ll : Nat) : Int) := by unfold nOf; omega
    have sd := same_new (o := .dK []) nd
    have W0 : WD (upd H1 d (.dK [])) [] d [] := ⟨by unfold mt; simp, upd_same, List.nodup_nil, fun e he => by simp at he, fun a ha => by simp at ha⟩
    have c0 : Same H (cutM (mt d [] []) (upd H1 d (.dK []))) := fun x o e => by
      have e1 := s1 _ _ e
      refine cut_of (fun h => ?_) (sd _ _ e1)
      unfold mt at h
      simp at h
      rw [h, nd] at e1
      cases e1
    refine ⟨.ref p, rfl, p, _, rfl, SqT.of (sd _ _ (s1 _ _ R.1)), ?_⟩
    refine for_it (walk_enumT (K := K) (a := p) (xs := as.map V.ref)) (fun i σ H2 => ∃ (en : List En) (y4 y5 y6 y7 : Option V), σ = [some (.ref p), some (.ref bd), some (.int ((ll.length : Int) + ((width ll : Nat) : Int))), some (.ref d), y4, y5, y6, y7] ∧ Same H (cutM (mt d en []) H2) ∧ WD H2 [] d en ∧ NE en ∧ (tot en).length ≤ i ∧ (∀ q, q ∈ tot en ↔ q ∈ seedN ll b i) ∧ ∀ ky : Tr → Int, (∀ i, i < ll.length → ky (seed1 ll i) = (ll.getD i []).sum) → KO ky en)
      ⟨[], none, none, none, none, rfl, c0, W0, (fun e he => by simp at he), Nat.le_refl _, (fun q => Iff.rfl), fun ky _ e he => by simp at he⟩ (fun i σ H2 _ ⟨en, _, _, _, _, _, c, _⟩ => SqT.of (cut_le _ _ (c _ _ R.1))) (fun i x σ H2 H3 hi ⟨en, y4, y5, y6, y7, eσ, c2, W2, N2, l2, m2, o2⟩ hY => ?_) (fun σ H2 ⟨en, y4, y5, y6, y7, eσ, c2, W2, N2, l2, m2, o2⟩ => ?_)
    · subst eσ
      obtain ⟨T0, x1, x2, rfl, nT, rfl, e1, e2⟩ := hY
      cases Option.some.inj e1
      rw [List.length_map] at hi
      have hai : as[i]? = some as[i] := List.getElem?_eq_getElem hi
      have ex2 : x2 = .ref as[i] := by
        have e2' : (as.map V.ref)[i]? = some x2 := e2
        rw [List.getElem?_map, hai] at e2'
        exact (Option.some.inj e2').symm
      subst ex2
      obtain ⟨h, hh1, hh2⟩ := R.2.at hai
      have hhm := hrows h (List.mem_of_getElem? hh1)
      have hD : ll.getD i [] = h := by rw [List.getD_eq_getElem?_getD, hh1]; rfl
      generalize as[i] = ai at hh2 ⊢
      have sT := same_new (o := .tup [.int (i : Nat), .ref ai]) nT
      have c3 : Same H (cutM (mt d en []) (upd H2 T0 (.tup [.int (i : Nat), .ref ai]))) := c2.trans (cut_same sT)
      have W3 := W2.same sT
      have hT0 : (upd H2 T0 (.tup [.int (i : Nat), .ref ai])) T0 = some (.tup [.int (i : Nat), .ref ai]) := upd_same
      generalize upd H2 T0 (.tup [.int (i : Nat), .ref ai]) = H3 at c3 W3 hT0 ⊢
      have a3 : Same H H3 := c3.trans cut_le
      refine ⟨T0, _, rfl, SqT.of hT0, rfl, _, _, rfl, _, _, rfl, rfl, ?_⟩
      refine ⟨.ref bd, rfl, .ref ai, rfl, bd, ai, b, h, rfl, (hB.same a3).it, SqT.of (a3 _ _ hh2), hbl.trans hhm.1.symm, by omega, fun H4 s4 => ⟨_, rfl, ?_⟩⟩
      have c4 := c3.trans (cut_same s4)
      have W4 := W3.same s4
      have a4 := a3.trans s4
      refine ite2 (fun cc => ?_) (fun cc => ?_)
      · -- its hamper waits
        refine ⟨.int (i : Nat), rfl, .int ((ll.length : Int) + ((width ll : Nat) : Int)), rfl, i, nOf ll, by rw [en0]; rfl, by unfold nOf; omega, by unfold nOf; omega, fun H5 p5 s5 h5 => ?_⟩
        have a5 := a4.trans s5
        refine ⟨.ref p5, rfl, sz_1 _, fun t1 nt1 => ⟨.ref p, rfl, p, _, rfl, .inr (SqT.of ((same_new nt1) _ _ (a5 _ _ R.1))), ?_⟩⟩
        rw [List.length_map, hlen]
        have st1 := same_new (o := .tup [.int 0]) nt1
        refine rep0_read upd_same (by omega) (by omega) fun z6 H6 s6 h6 => ?_
        have a6 := a5.trans (st1.trans s6)
        refine ⟨.ref ai, rfl, cat_ints h6 (show IntsAt H6 ai h from a6 _ _ hh2) (by rw [zeros_len, hhm.1]; omega) fun z7 H7 s7 h7 => ?_⟩
        have s57 := st1.trans (s6.trans s7)
        have a7 := a6.trans s7
        have lu : (unI i (nOf ll)).length = nOf ll := by
          unfold unI
          rw [List.length_append, List.length_append, zeros_len, zeros_len, List.length_singleton]
          unfold nOf
          omega
        refine ⟨p5, z7, _, _, 1, rfl, h5.same s57, h7, ?_, by rw [lu]; unfold nOf; omega, .inl (by decide), fun H8 p8 s8 h8 => ?_⟩
        · rw [lu, List.length_append, zeros_len, hhm.1]
          rfl
        have s48 := s5.trans (s57.trans s8)
        have a8 := a7.trans s8
        have W8 := W4.same s48
        have h58 := (h5.same s57).same s8
        refine app_setd (kk := h.sum) W8 N2 rfl (fun QQ hq => ⟨.ref ai, rfl, ai, h, rfl, SqT.of (a8 _ _ hh2), hq⟩) (small1000 (by omega)) fun l vs H9 hl hvl sc9 add => ?_
        have x5 : IntsAt H9 p5 _ := (W8.ints h58).same sc9
        have x8 : IntsAt H9 p8 _ := (W8.ints h8).same sc9
        refine ⟨.ref p5, rfl, sz_1 _, fun t2 nt2 => ⟨.int ((ll.length : Int) + ((width ll : Nat) : Int)), rfl, rep0_readm upd_same en0 (by unfold nOf; omega) (by unfold nOf; omega) fun z10 H10 s10 h10 => ⟨.ref p8, rfl, sz_3 _ _ _, fun t3 nt3 => ?_⟩⟩⟩
        have st2 := same_new (o := .tup [.int 0]) nt2
        have s910 := st2.trans s10
        have eqs : seed1 ll i = (unI i (nOf ll), zeros (nOf ll), subR (unI i (nOf ll)) (zeros ll.length ++ h) 1) := by
          unfold seed1
          rw [hD]
        obtain ⟨en', mv, N', l', m', o'⟩ := add H10 t3 p5 z10 p8 (seed1 ll i) s910 nt3 (by rw [eqs]; exact x5.same s910) (by rw [eqs]; exact h10) (by rw [eqs]; exact x8.same s910)
        refine ⟨l, vs, .ref t3, rfl, rfl, (same_new nt3) _ _ (s910 _ _ hl), small1000 (by omega), ?_⟩
        refine ⟨en', _, _, _, _, rfl, (c4.trans (cut_same s48)).trans mv.cut, mv.wd, N', by omega, fun q' => ?_, fun ky hky => o' ky (o2 ky hky) (by rw [hky i (by omega), hD])⟩
        rw [seedN_more, hD, if_pos cc, List.mem_append, List.mem_singleton, m' q', m2 q']
      · refine ⟨en, _, _, y6, y7, rfl, c4, W4, N2, by omega, (fun q' => ?_), o2⟩
        rw [seedN_more, hD, if_neg cc, List.append_nil]
        exact m2 q'
    · subst eσ
      rw [List.length_map, hlen] at l2 m2
      exact ⟨.ref d, rfl, q H2 d en c2 W2 N2 l2 m2 o2⟩
end
end HL

set_option pp.maxSteps 3000
namespace HL
open PySem PySem.Spec PyProof.Rows L2
open C8 (pss_cut)
open RZ (pi_zipA ItzT iZipA)
open BL (abv ngR askL askLi fitB vec RowOk StR inS St1 muv fit_iff step_pos row_step)
theorem scTk : FnScope ["step", "steps", "waiting", "columns", "bound", "other", "least", "bill", "good", "mine", "theirs"] ["step", "steps", "waiting", "columns", "bound"] (defScope sTakeIn) := ⟨rfl, rfl, rfl, by decide +kernel, rfl, by decide +kernel, by decide +kernel⟩
section
variable {P : Program} {w : World} {K : PySem.W.Frag} {mg : Str → Option Value} {base : Heap}
def lcR (s t : List Int) : List Int := (List.range s.length).map fun i => mx3 (s.getD i 0) (t.getD i 0)
theorem lcR_len {s t : List Int} : (lcR s t).length = s.length := by unfold lcR; rw [List.length_map, List.length_range]
theorem lcR_at {s t : List Int} {i : Nat} (h : i < s.length) : (lcR s t)[i]? = some (mx3 (s.getD i 0) (t.getD i 0)) := by
  unfold lcR
  rw [List.getElem?_map, List.getElem?_range h]
  rfl
def billR (cols : List (List Int)) (x : List Int) (g : Nat) : List Int := (List.range g).map fun j => packI cols x j
theorem billR_len {cols : List (List Int)} {x : List Int} {g : Nat} : (billR cols x g).length = g := by unfold billR; rw [List.length_map, List.length_range]
def condB (cols : List (List Int)) (b s t : List Int) : Bool := decide (Builtin.bitAnd (mkI (abv s)) (mkI (abv t)) ≠ 0) && (decide (Builtin.bitAnd (mkI (abv (ngR s))) (mkI (abv (ngR t))) = 0) && coversB b (billR cols (lcR s t) b.length))
def newN (cols : List (List Int)) (b s : List Int) (ss : List (List Int)) (i : Nat) : List Tr := (ss.take i).flatMap fun t => if condB cols b s t = true then [(lcR s t, s, t)] else []
theorem newN_more {cols : List (List Int)} {b s : List Int} {ss : List (List Int)} {i : Nat} {t : List Int} (h : ss[i]? = some t) : newN cols b s ss (i + 1) = newN cols b s ss i ++ if condB cols b s t = true then [(lcR s t, s, t)] else [] := by
  unfold newN
  rw [List.take_add_one, h, List.flatMap_append]
  simp
theorem cmp0 {x : Int} : decide (V.int x = V.int 0) = decide (x = 0) := by
  by_cases c : x = 0
  · rw [decide_eq_true c, decide_eq_true (congrArg V.int c)]
  · rw [decide_eq_false c, decide_eq_false fun z => c (V.int.inj z)]
def spTakeIn (K : PySem.W.Frag) (C : Addr) : Sp := fun vs H Q _ => ∃ (v : V) (a d cl bd : Addr) (us : List V) (ss : List (List Int)) (en : List En) (s : List Int) (cs : List Addr) (cols : List (List Int)) (b : List Int), vs = [v, .ref a, .ref d, .ref cl, .ref bd] ∧ WD H [a] d en ∧ NE en ∧ H a = some (.lst us) ∧
  StepsIn C (cutM (mt d en [a]) H) us ss ∧ StepIn C (cutM (mt d en [a]) H) v s ∧ RowsAt (cutM (mt d en [a]) H) cl cs cols ∧ IntsAt (cutM (mt d en [a]) H) bd b ∧ cols.length = s.length ∧ s.length ≤ 8 ∧ (∀ t ∈ ss, t.length = s.length) ∧ (∀ r ∈ cols, r.length = b.length ∧ ∀ n ∈ r, 0 ≤ n ∧ n ≤ 6) ∧ b.length ≤ 100 ∧ (tot en).length + ss.length < sizeLine ∧
  ∀ H' en', WD H' [a] d en' → NE en' → H' a = some (.lst (us ++ [v])) → Same (cutM (mt d en [a]) H) (cutM (mt d en' [a]) H') → (tot en').length ≤ (tot en).length + ss.length → (∀ q, q ∈ tot en' ↔ q ∈ tot en ∨ q ∈ newN cols b s ss ss.length) → (∀ ky : Tr → Int, KO ky en → (∀ t ∈ ss, ky (lcR s t, s, t) = (billR cols (lcR s t) b.length).sum) → KO ky en') → Q .non H'
theorem ok_takeIn {f C : Addr} {fd : FuncData} (F : Fun K "take_in" "take_in" sTakeIn f fd) (B : Bl mg) (mz : mg "zip" = none) (mx : mg "max" = none) (T : StepTxt K mg C) (CP : Cal P w K mg base CX0 1 "packed" ["lot", "counts", "good"] (spPacked K)) (CC : Cal P w K mg base CX0 1 "covers" ["row", "other"] (spCovers K)) :
    FnOk P w K mg base CX0 2 f fd ["step", "steps", "waiting", "columns", "bound"] (spTakeIn K C) := by
  obtain ⟨fP, fdP, GP, gP, kP, bP⟩ := CP.ex
  obtain ⟨fC, fdC, GC, gC, kC, bC⟩ := CC.ex
  refine F.ok scTk (fun vs H Q E h => ?_) (fun cdv A outer s H vs Q E hr h => ?_)
  · obtain ⟨v, a, d, cl, bd, us, ss, en, s, cs, cols, b, rfl, _⟩ := h
    rfl
  · obtain ⟨v, a, d, cl, bd, us, ss, en, s, cs, cols, b, rfl, W, Ne, ha, hS, hv, hC, hB, hcl, hsl, htl, hcols, hbl, hsz, q⟩ := h
    obtain ⟨p, dx, c, l0, as0, rfl, hp, hc, hl0, hR0⟩ := hv
    refine ⟨_, (pss_cons (ps_for PassesOwn.never rfl (pi_list (pv 1)) (pg_name (i := 5) scTk.nd rfl (.inl rfl))
      (pss_one (ps_if (PW.pt (pw_and (pt_cmpR op_ne (pe_op op_and (pe_fld (pv 0) rfl) (pe_fld (pv 5) rfl)) pe_int (nomark _)) (pw_and1 (pt_cmpR op_eq (pe_op op_and (pe_fld (pv 0) rfl) (pe_fld (pv 5) rfl)) pe_int (nomark _))))) (pss_cons (ps_set (i := 6) scTk.nd rfl (.inr rfl) (pe_callTy call_tuple_of (by rfl) B.tuple (by decide +kernel) (pa_cons (pe_lc (own := [("mine", 9), ("theirs", 10)]) (g := gTup K 2 (gCons (gName 9) (gCons (gName 10) gNil))) (tt := tYes) rfl scTk.nd (pi_zipA (by rfl) mz (pa_cons (pe_fld (pv 0) rfl) (pa_cons (pe_fld (pv 5) rfl) pa_nil)))
        (blkOk_by (own := [("mine", 9), ("theirs", 10)]) (N := ["step", "steps", "waiting", "columns", "bound", "other", "least", "bill", "good", "mine", "theirs"]) (sc := defScope sTakeIn) (by decide +kernel)) (fun _ _ _ _ _ => (pg_tup rfl (pgs_cons (pg_name (i := 9) scTk.nd rfl (.inl rfl)) (pgs_cons (pg_name (i := 10) scTk.nd rfl (.inl rfl)) pgs_nil)))) (fun _ _ _ _ _ => pts_nil)
        (fun _ _ _ _ _ => (pe_callB (call_max3Nu rfl) (by rfl) mx (by decide +kernel) (pa_cons (pv 9) (pa_cons (pv 10) (pa_cons pe_int pa_nil)))))) pa_nil)))
      (pss_cons (ps_set (i := 7) scTk.nd rfl (.inl rfl) (pe_callTy call_tuple_of (by rfl) B.tuple (by decide +kernel) (pa_cons (pe_lc (own := [("good", 8)]) (g := gName 8) (tt := tYes) rfl scTk.nd (pi_range1 (by rfl) B.range (pa_cons (pe_callB call_len_seq (by rfl) B.len PySem.boot_len (pa_cons (pv 4) pa_nil)) pa_nil))
        (blkOk_by (own := [("good", 8)]) (N := ["step", "steps", "waiting", "columns", "bound", "other", "least", "bill", "good", "mine", "theirs"]) (sc := defScope sTakeIn) (by decide +kernel)) (fun _ _ _ _ _ => pg_name (i := 8) scTk.nd rfl (Or.inl rfl)) (fun _ _ _ _ _ => pts_nil)
        (fun _ _ _ _ _ => (pe_call GP (hr.mono (by decide)) (by rfl) gP kP bP .nil pass0 (pa_cons (pv 3) (pa_cons (pv 6) (pa_cons (pv 8) pa_nil)))))) pa_nil)))
      (pss_one (ps_if (pt_val (pe_call GC (hr.mono (by decide)) (by rfl) gC kC bC .nil pass0 (pa_cons (pv 4) (pa_cons (pv 7) pa_nil)))) (pss_one (ps_expr (pe_bm PySem.F.plainAttrs_list PySem.F.slot_list_append PySem.F.type_list_append mt_append (pe_dsetd (pv 2) (pe_callB (cr_sumT rfl) (by rfl) B.sum (by decide +kernel) (pa_cons (pv 7) pa_nil)) (pe_lst pa_nil) ⟨rfl, rfl, rfl, rfl⟩) (pa_cons (pe_tup (pa_cons (pv 6) (pa_cons (pe_fld (pv 0) rfl) (pa_cons (pe_fld (pv 5) rfl) pa_nil)))) pa_nil)))) pss_nil)))) pss_nil)))
      (pss_one (ps_expr (pe_bm PySem.F.plainAttrs_list PySem.F.slot_list_append PySem.F.type_list_append mt_append (pv 1) (pa_cons (pv 0) pa_nil))))), ?_⟩
    refine ⟨.ref a, rfl, a, rfl, ⟨_, SqL.of ha⟩, for_list (K := K) (a := a) (xs := us) (fun i σ H' => ∃ (en' : List En) (y5 y6 y7 : Option V), σ = [some (.ref p), some (.ref a), some (.ref d), some (.ref cl), some (.ref bd), y5, y6, y7, none, none, none] ∧ Mv H [a] d en H' en' ∧ NE en' ∧ (tot en').length ≤ (tot en).length + i ∧ (∀ q, q ∈ tot en' ↔ q ∈ tot en ∨ q ∈ newN cols b s ss i) ∧ ∀ ky : Tr → Int, KO ky en → (∀ t ∈ ss, ky (lcR s t, s, t) = (billR cols (lcR s t) b.length).sum) → KO ky en')
      ⟨en, none, none, none, rfl, Mv.refl W, Ne, Nat.le_refl _, (fun q => ⟨.inl, fun h => h.elim id (fun h => by unfold newN at h; simp at h)⟩), fun ky h _ => h⟩ (fun i σ H' _ ⟨_, _, _, _, _, m, _⟩ => SqL.of (by rw [m.oth a (List.mem_singleton.mpr rfl)]; exact ha)) ?_ ?_⟩
    · rintro i y σ H1 hy ⟨en1, y5, y6, y7, rfl, m1, N1, l1, e1, o1⟩
      obtain ⟨t, ht1, p', dx', c', l', as', rfl, hp', hc', hl', hR'⟩ := hS.at hy
      have htlen := htl t (List.mem_of_getElem? ht1)
      have hil : i < ss.length := (List.getElem?_eq_some_iff.mp ht1).1
      have k1 : Same (cutM (mt d en [a]) H) H1 := m1.cut.trans cut_le
      have nextF : ∀ H' (y5 y6 y7 : Option V), Same H1 H' → condB cols b s t = false → ∃ (en' : List En) (z5 z6 z7 : Option V), [some (V.ref p), some (.ref a), some (.ref d), some (.ref cl), some (.ref bd), y5, y6, y7, none, none, none] = [some (V.ref p), some (.ref a), some (.ref d), some (.ref cl), some (.ref bd), z5, z6, z7, none, none, none] ∧ Mv H [a] d en H' en' ∧ NE en' ∧ (tot en').length ≤ (tot en).length + (i + 1) ∧ (∀ q, q ∈ tot en' ↔ q ∈ tot en ∨ q ∈ newN cols b s ss (i + 1)) ∧ ∀ ky : Tr → Int, KO ky en → (∀ t ∈ ss, ky (lcR s t, s, t) = (billR cols (lcR s t) b.length).sum) → KO ky en' := fun H' y5 y6 y7 s' ec =>
        ⟨en1, y5, y6, y7, rfl, m1.trans (Mv.same m1.wd s'), N1, by omega, (fun q' => by rw [newN_more ht1, ec, if_neg (by decide), List.append_nil]; exact e1 q'), o1⟩
      refine ⟨.ref p, rfl, p, C, dx, _, _, rfl, k1 _ _ hp, T.cl, T.nT, stF_takes, .ref p', rfl, p', C, dx', _, _, rfl, k1 _ _ hp', T.cl, T.nT, stF_takes, _, _, rfl, rfl, rfl, _, rfl, ite2 (fun c1 => ?_) (fun c1 => ?_)⟩
      · have b1 : decide (Builtin.bitAnd (mkI (abv s)) (mkI (abv t)) ≠ 0) = true := by
          have c1' : (!decide (V.int (Builtin.bitAnd (mkI (abv s)) (mkI (abv t))) = V.int 0)) = true := c1
          rw [cmp0] at c1'
          refine decide_eq_true fun z => ?_
          rw [decide_eq_true z] at c1'
          cases c1'
        refine ⟨.ref p, rfl, p, C, dx, _, _, rfl, k1 _ _ hp, T.cl, T.nG, stF_gives, .ref p', rfl, p', C, dx', _, _, rfl, k1 _ _ hp', T.cl, T.nG, stF_gives, _, _, rfl, rfl, rfl, _, rfl, ite2 (fun c2 => ?_) (fun c2 => ?_)⟩
        · have b2 : decide (Builtin.bitAnd (mkI (abv (ngR s))) (mkI (abv (ngR t))) = 0) = true := by
            have c2' : decide (V.int (Builtin.bitAnd (mkI (abv (ngR s))) (mkI (abv (ngR t)))) = V.int 0) = true := c2
            rw [cmp0] at c2'
            exact c2'
          -- least
          refine ⟨.ref p, rfl, p, C, dx, _, _, rfl, k1 _ _ hp, T.cl, T.nC, stF_change, .ref p', rfl, p', C, dx', _, _, rfl, k1 _ _ hp', T.cl, T.nC, stF_change, c, c', _, _, rfl, .inr ⟨SqT.of (k1 _ _ hc), SqT.of (k1 _ _ hc'), fun D nD => ?_⟩⟩
          refine ⟨fun j m H' => j + m = s.length ∧ Same H1 H' ∧ H' D = some (.lst (((lcR s t).take j).map V.int)), ⟨s.length, by omega, same_new nD, upd_same⟩, fun j m H' hW => ?_⟩
          obtain ⟨em, sm, hD⟩ := hW
          have sA : SqT K H' c (s.map V.int) := SqT.of (sm _ _ (k1 _ _ hc))
          have sB : SqT K H' c' (t.map V.int) := SqT.of (sm _ _ (k1 _ _ hc'))
          by_cases hj : j < s.length
          · have g1 : (s.map V.int)[j]? = some (.int (s.getD j 0)) := by rw [List.getElem?_map, getD_at hj]; rfl
            have g2 : (t.map V.int)[j]? = some (.int (t.getD j 0)) := by rw [List.getElem?_map, getD_at (by omega)]; rfl
            refine .inr ⟨⟨_, _, _, _, sA, sB, g1, g2⟩, fun H2 => Same H1 H2 ∧ H2 D = some (.lst (((lcR s t).take (j + 1)).map V.int)), fun H2 hN => ⟨m - 1, by omega, by omega, hN⟩, fun x H2 hyy => ?_⟩
            obtain ⟨T2, x1, x2, rfl, nT, rfl, f1, f2⟩ := hyy
            have ex1 := Option.some.inj ((f1 _ sA).symm.trans g1)
            have ex2 := Option.some.inj ((f2 _ sB).symm.trans g2)
            subst ex1 ex2
            have sT := same_new (o := .tup [V.int (s.getD j 0), V.int (t.getD j 0)]) nT
            refine ⟨T2, _, rfl, SqT.of upd_same, rfl, _, _, rfl, _, _, rfl, rfl, rfl, yes (iteT ?_)⟩
            refine ⟨_, rfl, _, rfl, _, _, _, _, rfl, nuMx, ?_⟩
            exact turn_fn (xs := lcR s t) nD (lcR_at hj) (by rw [lcR_len]; omega) sm hD sT
          · refine .inl ⟨⟨_, _, sA, sB, .inl ?_⟩, ?_⟩
            · rw [List.length_map]
              omega
            · rw [List.take_of_length_le (by rw [lcR_len]; omega)] at hD
              refine ⟨D, _, rfl, .inl ⟨SqL.of hD, fun lp nlp => ?_⟩⟩
              have slp := same_new (o := .tup ((lcR s t).map V.int)) nlp
              have s2 := sm.trans slp
              have hlp : IntsAt (upd H' lp (.tup ((lcR s t).map V.int))) lp (lcR s t) := upd_same
              generalize upd H' lp (.tup ((lcR s t).map V.int)) = H2 at s2 hlp ⊢
              have k2 := k1.trans s2
              -- bill
              refine ⟨.ref bd, rfl, bd, _, rfl, .inr (SqT.of (k2 _ _ hB)), _, rfl, by rw [List.length_map]; omega, by rw [List.length_map]; omega, fun D2 nD2 => ?_⟩
              rw [List.length_map]
              refine lc_range (lo := 0) (n := ((b.length : Nat) : Int).toNat) (fun j H' => Same H2 H' ∧ H' D2 = some (.lst (((billR cols (lcR s t) b.length).take j).map V.int))) ⟨same_new nD2, upd_same⟩ (fun j H4 hj ⟨s4, hD4⟩ => ?_) (fun H4 ⟨s4, hD4⟩ => ?_)
              · have ez : (0 : Int) + (j : Nat) = ((j : Nat) : Int) := by omega
                rw [ez]
                have k4 := k2.trans s4
                refine ⟨rfl, yes (iteT ?_)⟩
                refine ⟨.ref cl, rfl, .ref lp, rfl, .int (j : Nat), rfl, cl, lp, j, cs, cols, lcR s t, rfl, hC.same k4, (hlp.same s4).it, by rw [lcR_len, hcl], by omega, fun r hr => ⟨by rw [(hcols r hr).1]; omega, (hcols r hr).2⟩, fun H5 s5 => ?_⟩
                refine turn_fn (xs := billR cols (lcR s t) b.length) nD2 ?_ (by rw [billR_len]; omega) s4 hD4 s5
                unfold billR
                rw [List.getElem?_map, List.getElem?_range (by omega)]
                rfl
              · rw [Int.toNat_natCast, List.take_of_length_le (by rw [billR_len]; exact Nat.le_refl _)] at hD4
                refine ⟨D2, _, rfl, .inl ⟨SqL.of hD4, fun bp nbp => ?_⟩⟩
                have sbp := same_new (o := .tup ((billR cols (lcR s t) b.length).map V.int)) nbp
                have s5 := s2.trans (s4.trans sbp)
                have hlp5 := (hlp.same s4).same sbp
                have hbp : IntsAt (upd H4 bp (.tup ((billR cols (lcR s t) b.length).map V.int))) bp (billR cols (lcR s t) b.length) := upd_same
                generalize upd H4 bp (.tup ((billR cols (lcR s t) b.length).map V.int)) = H5 at s5 hlp5 hbp ⊢
                have k5 := k1.trans s5
                refine ⟨.ref bd, rfl, .ref bp, rfl, bd, bp, b, _, rfl, (hB.same k5).it, hbp.it, by rw [billR_len], hbl, fun H6 s6 => ⟨_, rfl, ite2 (fun c3 => ?_) (fun c3 => ?_)⟩⟩
                · have ec : condB cols b s t = true := by
                    unfold condB
                    rw [b1, b2, c3]
                    rfl
                  have s16 := s5.trans s6
                  have k6 := k5.trans s6
                  have m6 := m1.trans (Mv.same m1.wd s16)
                  have hlp6 := hlp5.same s6
                  have hbp6 := hbp.same s6
                  refine app_setd (kk := (billR cols (lcR s t) b.length).sum) m6.wd N1 rfl (fun QQ hq => ⟨.ref bp, rfl, bp, _, rfl, SqT.of hbp6, hq⟩) (by omega) fun l vs H9 hl hvl sc9 add => ?_
                  have k9 : Same (cutM (mt d en [a]) H) H9 := m6.cut.trans sc9
                  have x9 : IntsAt H9 lp _ := (m6.wd.ints hlp6).same sc9
                  refine ⟨.ref lp, rfl, .ref p, rfl, p, C, dx, _, _, rfl, k9 _ _ hp, T.cl, T.nC, stF_change, .ref p', rfl, p', C, dx', _, _, rfl, k9 _ _ hp', T.cl, T.nC, stF_change, sz_3 _ _ _, fun t3 nt3 => ?_⟩
                  obtain ⟨en', mv, N', l', m', o'⟩ := add H9 t3 lp c c' (lcR s t, s, t) (Same.refl _) nt3 x9 (hc.same k9) (hc'.same k9)
                  refine ⟨l, vs, .ref t3, rfl, rfl, (same_new nt3) _ _ hl, by omega, ?_⟩
                  refine ⟨en', _, _, _, rfl, m6.trans mv, N', by omega, fun q' => ?_, fun ky hk hp => o' ky (o1 ky hk hp) (hp t (List.mem_of_getElem? ht1))⟩
                  rw [newN_more ht1, if_pos ec, List.mem_append, List.mem_singleton, m' q', e1 q', or_assoc]
                · refine nextF H6 _ _ _ (s5.trans s6) ?_
                  unfold condB
                  rw [Bool.eq_false_iff.mpr c3, Bool.and_false, Bool.and_false]
        · refine nextF H1 _ _ _ (Same.refl _) ?_
          have b2 : decide (Builtin.bitAnd (mkI (abv (ngR s))) (mkI (abv (ngR t))) = 0) = false := by
            have c2' : ¬ decide (V.int (Builtin.bitAnd (mkI (abv (ngR s))) (mkI (abv (ngR t)))) = V.int 0) = true := c2
            rw [cmp0] at c2'
            exact Bool.eq_false_iff.mpr c2'
          unfold condB
          rw [b2, Bool.false_and, Bool.and_false]
      · refine iteF (nextF H1 _ _ _ (Same.refl _) ?_)
        have b1 : decide (Builtin.bitAnd (mkI (abv s)) (mkI (abv t)) ≠ 0) = false := by
          have c1' : ¬ (!decide (V.int (Builtin.bitAnd (mkI (abv s)) (mkI (abv t))) = V.int 0)) = true := c1
          rw [cmp0] at c1'
          refine decide_eq_false fun nz => ?_
          rw [decide_eq_false nz] at c1'
          exact c1' rfl
        unfold condB
        rw [b1, Bool.false_and]
    · rintro σ H1 ⟨en1, y5, y6, y7, rfl, m1, N1, l1, e1, o1⟩
      have ha1 : H1 a = some (.lst us) := by rw [m1.oth a (List.mem_singleton.mpr rfl)]; exact ha
      obtain ⟨W2, ec⟩ := m1.wd.put (us ++ [.ref p])
      refine ⟨.ref a, rfl, .inl ⟨rfl, _, SqL.of ha1⟩, .ref p, rfl, a, us, .ref p, rfl, rfl, ha1, by rw [hS.1]; omega, ?_⟩
      rw [hS.1] at l1 e1
      exact q _ en1 W2 N1 upd_same (by rw [ec]; exact m1.cut) l1 e1 o1
end
end HL

set_option pp.maxSteps 3000
namespace HL
open PySem PySem.Spec PyProof.Rows L2
open BL
/-! ### rows of the program as loads and steps -/
theorem mx3_eq (x y : Int) : mx3 x y = if x ≤ y then (if 0 ≤ y then y else 0) else (if 0 ≤ x then x else 0) := by
  unfold mx3
  by_cases c : x < y
  · rw [if_pos c, if_pos (Int.le_of_lt c)]
    by_cases c2 : y < 0
    · rw [if_pos c2, if_neg (by omega)]
    · rw [if_neg c2, if_pos (by omega)]
  · rw [if_neg c]
    by_cases c3 : x ≤ y
    · have e : x = y := by omega
      subst e
      rw [if_pos (Int.le_refl _)]
      by_cases c2 : x < 0
      · rw [if_pos c2, if_neg (by omega)]
      · rw [if_neg c2, if_pos (by omega)]
    · rw [if_neg c3]
      by_cases c2 : x < 0
      · rw [if_pos c2, if_neg (by omega)]
      · rw [if_neg c2, if_pos (by omega)]
theorem vec_at {r : List Int} {i : Nat} {z : Int} (h : r[i]? = some z) : vec r i = z := by
  unfold vec
  rw [List.getD_eq_getElem?_getD, h]
  rfl
theorem vec_lcR {s t : List Int} (e : s.length = t.length) : vec (lcR s t) = lc (vec s) (vec t) := by
  funext i
  by_cases h : i < s.length
  · rw [vec_at (lcR_at h), mx3_eq]
    rfl
  · rw [vec_out (by rw [lcR_len]; omega)]
    unfold lc
    rw [vec_out (r := s) (by omega), vec_out (r := t) (by omega)]
    rfl
theorem lc_comm (s t : Vec) : lc s t = lc t s := by
  funext i
  unfold lc
  by_cases c : s i ≤ t i
  · rw [if_pos c]
    by_cases c2 : t i ≤ s i
    · have e : s i = t i := by omega
      rw [if_pos c2, e]
    · rw [if_neg c2]
  · rw [if_neg c, if_pos (show t i ≤ s i by omega)]
theorem unI_len {i g : Nat} (h : i < g) : (unI i g).length = g := by
  unfold unI
  rw [List.length_append, List.length_append, zeros_len, zeros_len, List.length_singleton]
  omega
theorem vec_unI {i g : Nat} (h : i < g) : vec (unI i g) = un i := by
  funext j
  unfold vec unI zeros un
  rw [List.getD_eq_getElem?_getD]
  by_cases c1 : j < i
  · rw [List.getElem?_append_left (by rw [List.length_append, List.length_replicate, List.length_singleton]; omega), List.getElem?_append_left (by rw [List.length_replicate]; omega), List.getElem?_replicate, if_pos c1, if_neg (by omega)]
    rfl
  · by_cases c2 : j = i
    · subst c2
      rw [List.getElem?_append_left (by rw [List.length_append, List.length_replicate, List.length_singleton]; omega), List.getElem?_append_right (by rw [List.length_replicate]; omega), List.length_replicate, Nat.sub_self, if_pos rfl]
      rfl
    · rw [List.getElem?_append_right (by rw [List.length_append, List.length_replicate, List.length_singleton]; omega), List.getElem?_replicate, if_neg c2]
      split <;> rfl
theorem vec_zeros {n : Nat} : vec (zeros n) = fun _ => 0 := by
  funext i
  unfold vec zeros
  rw [List.getD_eq_getElem?_getD, List.getElem?_replicate]
  split <;> rfl
theorem packI_nil {x : List Int} {j : Nat} : packI [] x j = 0 := by
  unfold packI
  rw [List.zip_nil_right]
  rfl
theorem packI_cons {h : List Int} {t : List (List Int)} {z : Int} {x : List Int} {j : Nat} : packI (h :: t) (z :: x) j = z * h.getD j 0 + packI t x j := by
  unfold packI
  rw [List.zip_cons_cons, List.map_cons, List.sum_cons]
theorem pack_units {g j : Nat} (hj : j < g) : ∀ {k m : Nat} {x : List Int}, m + k ≤ g → x.length = k → packI ((List.range' m k).map fun i => unI i g) x j = if m ≤ j ∧ j < m + k then x.getD (j - m) 0 else 0
  | 0, m, [], _, _ => by
    rw [if_neg (by omega)]
    exact packI_nil
  | k + 1, m, z :: x, h, e => by
    rw [List.range'_succ, List.map_cons, packI_cons, pack_units hj (by omega) (by simpa using e)]
    have hv : (unI m g).getD j 0 = if j = m then 1 else 0 := congrFun (vec_unI (i := m) (g := g) (by omega)) j
    rw [hv]
    by_cases c : j = m
    · subst c
      rw [if_pos rfl, if_neg (by omega), if_pos ⟨Nat.le_refl _, by omega⟩, Nat.sub_self]
      show z * 1 + 0 = z
      omega
    · rw [if_neg c]
      by_cases c2 : m ≤ j ∧ j < m + (k + 1)
      · rw [if_pos (show m + 1 ≤ j ∧ j < m + 1 + k by omega), if_pos c2, show j - m = (j - (m + 1)) + 1 by omega]
        show z * 0 + x.getD (j - (m + 1)) 0 = x.getD (j - (m + 1)) 0
        omega
      · rw [if_neg (show ¬ (m + 1 ≤ j ∧ j < m + 1 + k) by omega), if_neg c2]
        omega
  | 0, _, _ :: _, _, e => by simp at e
  | _ + 1, _, [], _, e => by simp at e
theorem pack_cols {g j : Nat} (hj : j < g) : ∀ {ll : List (List Int)} {x : List Int}, x.length = ll.length + g → packI (ll ++ unitsR g) x j = Lb ll (vec x) j + vec x (ll.length + j)
  | [], x, e => by
    have e' : x.length = g := by simpa using e
    have := pack_units hj (k := g) (m := 0) (x := x) (by omega) e'
    rw [if_pos ⟨Nat.zero_le _, by omega⟩] at this
    show packI (unitsR g) x j = 0 + vec x (0 + j)
    unfold unitsR
    rw [List.range_eq_range', this, Nat.zero_add, Int.zero_add]
    rfl
  | h :: t, [], e => by simp at e; omega
  | h :: t, z :: x, e => by
    rw [List.cons_append, packI_cons, pack_cols hj (by rw [List.length_cons, List.length_cons] at e; omega)]
    show z * h.getD j 0 + (Lb t (vec x) j + vec x (t.length + j)) = (z * h.getD j 0 + Lb t (vec x) j) + vec (z :: x) (t.length + 1 + j)
    have ev : vec (z :: x) (t.length + 1 + j) = vec x (t.length + j) := by
      rw [show t.length + 1 + j = (t.length + j) + 1 by omega]
      rfl
    rw [ev]
    omega
theorem billR_at {ll : List (List Int)} {x : List Int} {g j : Nat} (hj : j < g) (e : x.length = ll.length + g) : (billR (ll ++ unitsR g) x g).getD j 0 = Bv ll g (vec x) j := by
  unfold billR Bv
  rw [List.getD_eq_getElem?_getD, List.getElem?_map, List.getElem?_range hj, if_pos hj]
  exact pack_cols hj e
theorem covers_iff : ∀ {b c : List Int}, b.length = c.length → (coversB b c = true ↔ ∀ j, j < b.length → c.getD j 0 ≤ b.getD j 0)
  | [], [], _ => ⟨fun _ j h => absurd h (Nat.not_lt_zero _), fun _ => rfl⟩
  | x :: b, y :: c, e => by
    have ih := covers_iff (b := b) (c := c) (by simpa using e)
    have e1 : coversB (x :: b) (y :: c) = (decide (x ≥ y) && coversB b c) := by
      unfold coversB
      rw [List.zip_cons_cons, List.map_cons, List.all_cons]
      rfl
    rw [e1, Bool.and_eq_true, decide_eq_true_iff, ih]
    constructor
    · rintro ⟨h1, h2⟩ j hj
      cases j with
      | zero => exact h1
      | succ j => exact h2 j (by simpa using hj)
    · intro h
      exact ⟨h 0 (by simp), fun j hj => h (j + 1) (by simpa using hj)⟩
  | [], _ :: _, e => by simp at e
  | _ :: _, [], e => by simp at e
theorem ok_iff {ll : List (List Int)} {b x : List Int} (hb : ∀ j, 0 ≤ vec b j) (e : x.length = ll.length + b.length) : coversB b (billR (ll ++ unitsR b.length) x b.length) = true ↔ Okv ll b.length (vec b) (vec x) := by
  rw [covers_iff (by rw [billR_len])]
  constructor
  · intro h j
    by_cases c : j < b.length
    · have := h j c
      rw [billR_at c e] at this
      exact this
    · have : Bv ll b.length (vec x) j = 0 := by
        unfold Bv
        rw [if_neg c]
      rw [this]
      exact hb j
  · intro h j hj
    rw [billR_at hj e]
    exact h j
/-! marks -/
def mkN : List Int → Nat
  | [] => 0
  | x :: r => (if x ≠ 0 then 1 else 0) + 2 * mkN r
theorem mkN_bit : ∀ {r : List Int} {i : Nat}, (mkN r).testBit i = decide (vec r i ≠ 0)
  | [], i => by
    show (0 : Nat).testBit i = decide (([] : List Int).getD i 0 ≠ 0)
    rw [Nat.zero_testBit]
    simp
  | x :: r, 0 => by
    show ((if x ≠ 0 then 1 else 0) + 2 * mkN r).testBit 0 = decide (x ≠ 0)
    rw [Nat.testBit_zero]
    by_cases c : x ≠ 0
    · rw [if_pos c, decide_eq_true c]
      exact decide_eq_true (by omega)
    · rw [if_neg c, decide_eq_false c]
      exact decide_eq_false (by omega)
  | x :: r, i + 1 => by
    show ((if x ≠ 0 then 1 else 0) + 2 * mkN r).testBit (i + 1) = decide (vec r i ≠ 0)
    rw [Nat.testBit_succ, ← mkN_bit]
    congr 1
    split <;> omega
theorem mkL_cons {x : Int} {r : List Int} : ∀ {i : Nat}, (mkL (x :: r) (i + 1)).sum = (if x ≠ 0 then 1 else 0) + 2 * (mkL r i).sum
  | 0 => by
    rw [mkL_more]
    have e0 : mkL (x :: r) 0 = [] := rfl
    have e1 : mkL r 0 = [] := rfl
    rw [e0, e1]
    show ([] ++ if x ≠ 0 then [1 * (2 : Int) ^ 0] else []).sum = _
    by_cases c : x ≠ 0
    · rw [if_pos c, if_pos c]; rfl
    · rw [if_neg c, if_neg c]; rfl
  | i + 1 => by
    rw [mkL_more, List.sum_append, mkL_cons, mkL_more (r := r), List.sum_append]
    have e : (x :: r).getD (i + 1) 0 = r.getD i 0 := rfl
    rw [e]
    by_cases c : r.getD i 0 ≠ 0
    · rw [if_pos c, if_pos c, List.sum_cons, List.sum_cons, List.sum_nil, Int.pow_succ]
      omega
    · rw [if_neg c, if_neg c, List.sum_nil]
      omega
theorem mkI_eq : ∀ {r : List Int}, mkI r = (mkN r : Int)
  | [] => rfl
  | x :: r => by
    have h : mkI (x :: r) = (if x ≠ 0 then 1 else 0) + 2 * mkI r := mkL_cons
    rw [h, mkI_eq]
    show _ = (((if x ≠ 0 then 1 else 0) + 2 * mkN r : Nat) : Int)
    split <;> omega
theorem and_zero {r r' : List Int} : Builtin.bitAnd (mkI r) (mkI r') = 0 ↔ ∀ i, ¬ (vec r i ≠ 0 ∧ vec r' i ≠ 0) := by
  rw [mkI_eq, mkI_eq, PyProof.Rows.bitAnd_pp (Int.natCast_nonneg _) (Int.natCast_nonneg _), Int.toNat_natCast, Int.toNat_natCast]
  constructor
  · intro h i hi
    have h0 : mkN r &&& mkN r' = 0 := by omega
    have := congrArg (fun n => n.testBit i) h0
    simp only [Nat.testBit_and, mkN_bit, Nat.zero_testBit] at this
    rw [decide_eq_true hi.1, decide_eq_true hi.2] at this
    cases this
  · intro h
    have h0 : mkN r &&& mkN r' = 0 := by
      refine Nat.eq_of_testBit_eq fun i => ?_
      rw [Nat.testBit_and, mkN_bit, mkN_bit, Nat.zero_testBit]
      cases e1 : decide (vec r i ≠ 0) with
      | false => rfl
      | true =>
        cases e2 : decide (vec r' i ≠ 0) with
        | false => rfl
        | true => exact absurd ⟨of_decide_eq_true e1, of_decide_eq_true e2⟩ (h i)
    rw [h0]
    rfl
theorem abv_nz {s : List Int} {i : Nat} : vec (abv s) i ≠ 0 ↔ 0 < vec s i := by
  rw [vec_abv]
  show (if vec s i < 0 then 0 else vec s i) ≠ 0 ↔ _
  split <;> omega
theorem abg_nz {s : List Int} {i : Nat} : vec (abv (ngR s)) i ≠ 0 ↔ vec s i < 0 := by
  rw [abv_nz, vec_ng]
  show 0 < - vec s i ↔ _
  omega
/-- a pair that doesn't wait needn't -/
theorem cond_false {ll : List (List Int)} {b s t : List Int} (hb : ∀ j, 0 ≤ vec b j) (e1 : s.length = ll.length + b.length) (e2 : t.length = s.length) (h : condB (ll ++ unitsR b.length) b s t = false) (ho : Okv ll b.length (vec b) (lc (vec s) (vec t))) : (∀ i, ¬ (0 < vec s i ∧ 0 < vec t i)) ∨ ∃ i, vec s i < 0 ∧ vec t i < 0 := by
  by_cases c1 : Builtin.bitAnd (mkI (abv s)) (mkI (abv t)) = 0
  · refine .inl fun i hi => and_zero.mp c1 i ⟨abv_nz.mpr hi.1, abv_nz.mpr hi.2⟩
  · by_cases c2 : Builtin.bitAnd (mkI (abv (ngR s))) (mkI (abv (ngR t))) = 0
    · exfalso
      have h3 : coversB b (billR (ll ++ unitsR b.length) (lcR s t) b.length) = true := by
        rw [ok_iff hb (by rw [lcR_len]; exact e1), vec_lcR e2.symm]
        exact ho
      unfold condB at h
      rw [decide_eq_true c1, decide_eq_true c2, h3] at h
      cases h
    · right
      by_cases z : ∃ i, vec s i < 0 ∧ vec t i < 0
      · exact z
      · exact absurd (and_zero.mpr fun i hi => z ⟨i, abg_nz.mp hi.1, abg_nz.mp hi.2⟩) c2
theorem cond_true {ll : List (List Int)} {b s t : List Int} (hb : ∀ j, 0 ≤ vec b j) (e1 : s.length = ll.length + b.length) (e2 : t.length = s.length) (h : condB (ll ++ unitsR b.length) b s t = true) : Okv ll b.length (vec b) (vec (lcR s t)) := by
  unfold condB at h
  rw [Bool.and_eq_true, Bool.and_eq_true] at h
  exact (ok_iff hb (by rw [lcR_len]; exact e1)).mp h.2.2
theorem lv_of {x s t : List Int} (h : lvB x s t = true) : Lv (vec x) (vec s) (vec t) := by
  obtain ⟨v, hv, e⟩ := List.any_eq_true.mp h
  unfold lvL at hv
  obtain ⟨i, hi, rfl⟩ := List.mem_map.mp hv
  have h1 : mx3 (s.getD i 0) (t.getD i 0) < x.getD i 0 := of_decide_eq_true e
  rw [mx3_eq] at h1
  refine ⟨i, ?_, ?_, ?_⟩
  · show s.getD i 0 < x.getD i 0
    split at h1 <;> split at h1 <;> omega
  · show t.getD i 0 < x.getD i 0
    split at h1 <;> split at h1 <;> omega
  · show 0 < x.getD i 0
    split at h1 <;> split at h1 <;> omega
end HL

set_option pp.maxSteps 3000
namespace HL
open PySem PySem.Spec PyProof.Rows L2
open BL
/-! ### costs are ranks -/
theorem dot_sm : ∀ {xs ys : List Int}, xs.length = ys.length → dotI xs ys = sm xs.length (fun i => vec xs i * vec ys i)
  | [], [], _ => rfl
  | x :: xs, y :: ys, e => by
    have ih := dot_sm (xs := xs) (ys := ys) (by simpa using e)
    have e1 : dotI (x :: xs) (y :: ys) = x * y + dotI xs ys := by
      unfold dotI
      rw [List.zip_cons_cons, List.map_cons, List.sum_cons]
    rw [e1, ih, List.length_cons, sm_sh]
    rfl
  | [], _ :: _, e => by simp at e
  | _ :: _, [], e => by simp at e
theorem vec_app {xs ys : List Int} {i : Nat} : vec (xs ++ ys) i = if i < xs.length then vec xs i else vec ys (i - xs.length) := by
  unfold vec
  rw [List.getD_eq_getElem?_getD, List.getD_eq_getElem?_getD, List.getD_eq_getElem?_getD]
  by_cases c : i < xs.length
  · rw [if_pos c, List.getElem?_append_left c]
  · rw [if_neg c, List.getElem?_append_right (by omega)]
theorem sm_un {x : Vec} {i : Nat} : ∀ {n : Nat}, i < n → sm n (fun j => un i j * x j) = x i
  | 0, h => absurd h (Nat.not_lt_zero _)
  | n + 1, h => by
    show sm n (fun j => un i j * x j) + un i n * x n = x i
    by_cases c : i = n
    · subst c
      have z : sm i (fun j => un i j * x j) = 0 := by
        rw [← sm_zero (g := i)]
        exact sm_congr fun j hj => by
          unfold un
          rw [if_neg (by omega)]
          omega
      rw [z]
      unfold un
      rw [if_pos rfl]
      omega
    · rw [sm_un (by omega)]
      unfold un
      rw [if_neg (by omega)]
      omega
theorem sums_rk {k g : Nat} {ns s : List Int} (e1 : ns.length = k) (e2 : s.length = k + g) : sumsR (costL k g ns) s = rkv k g (vec ns) (vec s) := by
  unfold sumsR costL rkv placesN
  rw [List.map_append, List.map_cons, List.map_cons, List.map_nil]
  have h1 : dotI (zeros k ++ List.replicate g 1) s = sm g (fun j => vec s (k + j)) := by
    rw [dot_sm (by rw [List.length_append, zeros_len, List.length_replicate, e2]), List.length_append, zeros_len, List.length_replicate, sm_split]
    have z1 : sm k (fun i => vec (zeros k ++ List.replicate g 1) i * vec s i) = 0 := by
      rw [← sm_zero (g := k)]
      exact sm_congr fun j hj => by
        rw [vec_app, if_pos (by rw [zeros_len]; exact hj), vec_zeros]
        exact Int.zero_mul _
    rw [z1, Int.zero_add]
    exact sm_congr fun j hj => by
      rw [vec_app, if_neg (by rw [zeros_len]; omega), zeros_len, Nat.add_sub_cancel_left]
      have : vec (List.replicate g (1 : Int)) j = 1 := vec_at (by rw [List.getElem?_replicate, if_pos hj])
      rw [this]
      omega
  have h2 : dotI (ns ++ zeros g) s = sm k (fun i => vec ns i * vec s i) := by
    rw [dot_sm (by rw [List.length_append, zeros_len, e1, e2]), List.length_append, zeros_len, e1, sm_split]
    have z1 : sm g (fun j => vec (ns ++ zeros g) (k + j) * vec s (k + j)) = 0 := by
      rw [← sm_zero (g := g)]
      exact sm_congr fun j hj => by
        rw [vec_app, if_neg (by omega), vec_zeros]
        exact Int.zero_mul _
    rw [z1, Int.add_zero]
    exact sm_congr fun j hj => by
      rw [vec_app, if_pos (by omega)]
  have h3 : ∀ i, i < k + g → dotI (unI i (k + g)) s = vec s i := fun i hi => by
    rw [dot_sm (by rw [unI_len hi, e2]), unI_len hi, vec_unI hi]
    exact sm_un hi
  rw [h1, h2]
  show _ :: _ :: List.map _ (List.map _ _) = _
  congr 2
  rw [List.map_append, List.map_append, List.map_map, List.map_map, List.map_map]
  congr 1
  · exact List.map_congr_left fun j hj => h3 (k + j) (by have := List.mem_range.mp hj; omega)
  · exact List.map_congr_left fun j hj => h3 j (by have := List.mem_range.mp hj; omega)
theorem nzR_cons {x : Int} {l : List Int} : nzR (x :: l) = if x ≠ 0 then x :: nzR l else nzR l := by
  unfold nzR
  rw [List.filter_cons]
  by_cases c : x ≠ 0
  · rw [if_pos (decide_eq_true c), if_pos c]
  · rw [if_neg (fun z => c (of_decide_eq_true z)), if_neg c]
theorem fp_nz : ∀ {l : List Int} {t : Int} {rest : List Int}, nzR l = t :: rest → (0 < t → FP l) ∧ (¬ 0 < t → FP (l.map fun z => -z))
  | [], t, rest, h => by cases h
  | x :: l, t, rest, h => by
    rw [nzR_cons] at h
    by_cases c : x ≠ 0
    · rw [if_pos c] at h
      have ex := (List.cons.inj h).1
      subst ex
      exact ⟨fun p => .inl p, fun p => .inl (by show 0 < -x; omega)⟩
    · rw [if_neg c] at h
      have e : x = 0 := by omega
      obtain ⟨h1, h2⟩ := fp_nz h
      exact ⟨fun p => .inr ⟨e, h1 p⟩, fun p => .inr ⟨by show -x = 0; omega, h2 p⟩⟩
theorem rkv_neg {k g : Nat} {w x : Vec} : rkv k g w (fun i => - x i) = (rkv k g w x).map fun z => -z := by
  unfold rkv
  rw [List.map_cons, List.map_cons, List.map_append, List.map_map, List.map_map]
  have e1 : sm g (fun j => - x (k + j)) = - sm g (fun j => x (k + j)) := by
    have := sm_mul (g := g) (x := fun j => x (k + j)) (c := -1)
    have e : sm g (fun j => - x (k + j)) = sm g (fun j => -1 * x (k + j)) := sm_congr fun j _ => by omega
    rw [e, this]
    omega
  have e2 : sm k (fun i => w i * - x i) = - sm k (fun i => w i * x i) := by
    have := sm_mul (g := k) (x := fun i => w i * x i) (c := -1)
    have e : sm k (fun i => w i * - x i) = sm k (fun i => -1 * (w i * x i)) := sm_congr fun j _ => by rw [Int.mul_neg]; omega
    rw [e, this]
    omega
  rw [e1, e2]
  rfl
theorem nz_some {k g : Nat} {w : Vec} {x : Vec} {i : Nat} (hi : i < k + g) (h : x i ≠ 0) : ∃ t rest, nzR (rkv k g w x) = t :: rest := by
  have hm : x i ∈ nzR (rkv k g w x) := by
    unfold nzR
    refine List.mem_filter.mpr ⟨?_, decide_eq_true h⟩
    unfold rkv
    refine List.mem_cons_of_mem _ (List.mem_cons_of_mem _ (List.mem_append.mpr ?_))
    by_cases c : i < k
    · exact .inr (List.mem_map.mpr ⟨i, List.mem_range.mpr c, rfl⟩)
    · exact .inl (List.mem_map.mpr ⟨i - k, List.mem_range.mpr (by omega), by show x (k + (i - k)) = x i; rw [show k + (i - k) = i by omega]⟩)
  cases e : nzR (rkv k g w x) with
  | nil => rw [e] at hm; cases hm
  | cons t rest => exact ⟨t, rest, rfl⟩
/-! ### how many loads there are -/
def vecsN : Nat → Nat → List (List Int)
  | 0, _ => [[]]
  | n + 1, D => (List.range (D + 1)).flatMap fun a => (vecsN n (D - a)).map fun r => ((a : Nat) : Int) :: r
def cntV : Nat → Nat → Nat
  | 0, _ => 1
  | n + 1, D => ((List.range (D + 1)).map fun a => cntV n (D - a)).sum
theorem vecs_len : ∀ {n D : Nat}, (vecsN n D).length = cntV n D
  | 0, _ => rfl
  | n + 1, D => by
    show (List.flatMap _ _).length = _
    rw [List.length_flatMap]
    show _ = ((List.range (D + 1)).map fun a => cntV n (D - a)).sum
    congr 1
    exact List.map_congr_left fun a _ => by rw [List.length_map, vecs_len]
theorem vecs_mem : ∀ {n D : Nat} {r : List Int}, r.length = n → (∀ z ∈ r, 0 ≤ z) → r.sum ≤ D → r ∈ vecsN n D
  | 0, D, [], _, _, _ => List.mem_singleton.mpr rfl
  | n + 1, D, x :: r, e, hn, hs => by
    have x0 := hn x List.mem_cons_self
    have hr : ∀ z ∈ r, 0 ≤ z := fun z hz => hn z (List.mem_cons_of_mem _ hz)
    have r0 : 0 ≤ r.sum := by
      clear hs e hn x0
      induction r with
      | nil => exact Int.le_refl _
      | cons y r ih =>
        rw [List.sum_cons]
        have := hr y List.mem_cons_self
        have := ih fun z hz => hr z (List.mem_cons_of_mem _ hz)
        omega
    rw [List.sum_cons] at hs
    refine List.mem_flatMap.mpr ⟨x.toNat, List.mem_range.mpr (by omega), List.mem_map.mpr ⟨r, vecs_mem (by simpa using e) hr (by omega), ?_⟩⟩
    rw [Int.toNat_of_nonneg x0]
  | 0, _, _ :: _, e, _, _ => by simp at e
  | _ + 1, _, [], e, _, _ => by simp at e
theorem nodup_len : ∀ {l m : List (List Int)}, l.Nodup → (∀ x ∈ l, x ∈ m) → l.length ≤ m.length
  | [], _, _, _ => Nat.zero_le _
  | x :: l, m, nd, h => by
    obtain ⟨n1, n2⟩ := List.nodup_cons.mp nd
    have hx := h x List.mem_cons_self
    have := nodup_len (l := l) (m := m.erase x) n2 fun y hy => (List.mem_erase_of_ne (fun e => n1 (by rw [← e]; exact hy))).mpr (h y (List.mem_cons_of_mem _ hy))
    rw [List.length_erase_of_mem hx] at this
    have := List.length_pos_of_mem hx
    rw [List.length_cons]
    omega
/-- two loads that have no parts to be told one for the other -/
def NP (ll : List (List Int)) (g : Nat) (u v : Vec) : Prop := ∀ a b, Ld (ll.length + g) a → Ld (ll.length + g) b → Fit a u → Fit b v → Bv ll g a = Bv ll g b → dgv ll g a < dgv ll g u → a = b
/-- three kinds at most in three goods, within nine where no parts are -/
def Opt (ll : List (List Int)) (b : List Int) : Prop := ll.length ≤ 3 ∧ b.length = 3 ∧
  ∀ u v, Ld (ll.length + b.length) u → Ld (ll.length + b.length) v → Okv ll b.length (vec b) u → Okv ll b.length (vec b) v → Bv ll b.length u = Bv ll b.length v → u ≠ v → NP ll b.length u v → ∀ i, i < ll.length → -9 ≤ u i - v i ∧ u i - v i ≤ 9
/-- few enough: the loads that steps may take out -/
def Few (ll : List (List Int)) (b : List Int) (D : Nat) : Prop := (cntV (ll.length + b.length) D ≤ 5005 ∨ Opt ll b) ∧ D ≤ 1000000 ∧
  ∀ u v, Ld (ll.length + b.length) u → Ld (ll.length + b.length) v → Okv ll b.length (vec b) u → Okv ll b.length (vec b) v → Bv ll b.length u = Bv ll b.length v → u ≠ v → NP ll b.length u v → sm (ll.length + b.length) u ≤ D
theorem few_rows {ll : List (List Int)} {b ws : List Int} {D : Nat} (F : Few ll b D) {ss : List (List Int)} (nd : (ss.map abv).Nodup) (st : ∀ s ∈ ss, StR ll b ws s) (h : ∀ s ∈ ss, RowOk ll b (abv s) ∧ sm (ll.length + b.length) (vec (abv s)) ≤ D) (h9 : ∀ s ∈ ss, Opt ll b → ∀ i, i < ll.length → -9 ≤ vec s i ∧ vec s i ≤ 9) : ss.length ≤ 5005 := by
  rcases F.1 with few | o
  · have := nodup_len (l := ss.map abv) (m := vecsN (ll.length + b.length) D) nd fun r hr => by
      obtain ⟨s, hs, rfl⟩ := List.mem_map.mp hr
      obtain ⟨hR, h1⟩ := h s hs
      have e : sm (ll.length + b.length) (vec (abv s)) = (abv s).sum := sm_getD hR.len
      refine vecs_mem hR.len (fun z hz => ?_) (by omega)
      obtain ⟨i, hi, e2⟩ := List.mem_iff_getElem.mp hz
      have := hR.ld.1 i
      rw [vec_at (r := abv s) (i := i) (z := z) (by rw [List.getElem?_eq_getElem hi, e2])] at this
      exact this
    rw [vecs_len, List.length_map] at this
    omega
  · have nds : ss.Nodup := by
      rw [List.nodup_iff_pairwise_ne, List.pairwise_map] at nd
      rw [List.nodup_iff_pairwise_ne]
      exact nd.imp fun h e => h (by rw [e])
    refine few_nine o.1 nds (fun s hs => by rw [(st s hs).len, o.2.1]) (fun s hs j => by have := (st s hs).st.ker j; rw [o.2.1] at this; exact this) (fun s hs => h9 s hs o) fun s hs t ht => Classical.byContradiction fun c => ?_
    have op : ∀ i, vec t i = -vec s i := fun i => Classical.byContradiction fun z => c ⟨i, z⟩
    have key : ∀ {s t : List Int}, s ∈ ss → (∀ i, vec t i = -vec s i) → muv ll b.length (vec ws) (vec (abv t)) < muv ll b.length (vec ws) (vec (abv s)) := fun {s t} hs op => by
      have hR := (h s hs).1
      have d := (st s hs).st.dec (vec (abv s)) hR.ld hR.ok fun i => by rw [vec_abv]; dsimp only; split <;> omega
      have e : sb (vec (abv s)) (vec s) = vec (abv t) := by
        funext i
        show vec (abv s) i - vec s i = vec (abv t) i
        rw [vec_abv, vec_abv]
        dsimp only
        rw [op i]
        split <;> split <;> omega
      rw [e] at d
      exact d
    have h1 := key hs op
    have h2 := key (s := t) (t := s) ht fun i => by have := op i; omega
    omega
theorem mu_inj {ll : List (List Int)} {g : Nat} {b w x y : Vec} (Z : Sit ll g b w) (hx : Ld (ll.length + g) x) (hy : Ld (ll.length + g) y) (ox : Okv ll g b x) (oy : Okv ll g b y) (e : muv ll g w x = muv ll g w y) : x = y := by
  rcases lx_tri (r := rkv ll.length g w x) (s := rkv ll.length g w y) (by rw [rkv_len, rkv_len]) with h | h | h
  · exact absurd h (rk_of_mu Z hy oy hx ox (by omega))
  · exact rkv_inj hx hy h
  · exact absurd h (rk_of_mu Z hx ox hy oy (by omega))
/-- the bills within a small bound: all loads are few -/
theorem few_small {ll : List (List Int)} {b ws : List Int} (Z : St1 ll b ws) (h1 : cntV (ll.length + b.length) (sm b.length (vec b)).toNat ≤ 5005) (h2 : sm b.length (vec b) ≤ 1000000) : Few ll b (sm b.length (vec b)).toNat :=
  ⟨.inl h1, by omega, fun u v hu _ ou _ _ _ _ => by
    have := ld_sum Z hu ou
    have := sm_nn (g := ll.length + b.length) (x := u) fun i _ => hu.1 i
    omega⟩
theorem few1 : ∀ n, n ≤ 4 → ∀ D, D ≤ 12 → cntV n D ≤ 5005 := by decide +kernel
theorem few2 : ∀ n, n ≤ 5 → ∀ D, D ≤ 10 → cntV n D ≤ 5005 := by decide +kernel
theorem few3 : ∀ n, n ≤ 6 → ∀ D, D ≤ 9 → cntV n D ≤ 5005 := by decide +kernel
end HL

set_option pp.maxSteps 3000
namespace HL
open PySem PySem.Spec PyProof.Rows L2
open BL
/-! ### what is kept while steps are sought -/
structure TrOk (ll : List (List Int)) (b : List Int) (q : Tr) : Prop where
  x : RowOk ll b q.1
  l1 : q.2.1.length = ll.length + b.length
  l2 : q.2.2.length = ll.length + b.length
  r1 : RowOk ll b (subR q.1 q.2.1 1)
  r2 : RowOk ll b (subR q.1 q.2.2 1)
  eb : Bv ll b.length (vec (subR q.1 q.2.1 1)) = Bv ll b.length (vec (subR q.1 q.2.2 1))
  ek : Bv ll b.length (vec (subR q.1 q.2.1 1)) = Bv ll b.length (vec q.1)
structure PInv (ll : List (List Int)) (b ns : List Int) (ss : List (List Int)) (T : Tr → Prop) : Prop where
  st : ∀ s ∈ ss, StR ll b ns s
  good : ∀ q, T q → TrOk ll b q
  pair : ∀ s ∈ ss, ∀ t ∈ ss, Okv ll b.length (vec b) (lc (vec s) (vec t)) → (∀ i, ¬ (0 < vec s i ∧ 0 < vec t i)) ∨ (∃ i, vec s i < 0 ∧ vec t i < 0) ∨ Hd (inS ss) (lc (vec s) (vec t)) (vec s) (vec t) ∨ T (lcR s t, s, t) ∨ T (lcR t s, t, s)
  seed : ∀ k, k < ll.length → Okv ll b.length (vec b) (un k) → Hd (inS ss) (un k) (fun _ => 0) (sb (un k) (holdv ll k)) ∨ T (seed1 ll k)
  nd : (ss.map abv).Nodup
  ab : ∀ s ∈ ss, RowOk ll b (abv s)
theorem hd_symm {S : Vec → Prop} {x s t : Vec} (h : Hd S x s t) : Hd S x t s := by
  rcases h with h | ⟨r, h1, h2, h3, h4⟩
  · exact .inl h.symm
  · exact .inr ⟨r, h1, h2, h4, h3⟩
section
variable {ll : List (List Int)} {b ns : List Int}
theorem pair_ok (Z : St1 ll b ns) {s t : List Int} (hs : StR ll b ns s) (ht : StR ll b ns t) (ho : Okv ll b.length (vec b) (lc (vec s) (vec t))) : TrOk ll b (lcR s t, s, t) := by
  have el : s.length = t.length := hs.len.trans ht.len.symm
  have ev := vec_lcR el
  have lx : Ld (ll.length + b.length) (lc (vec s) (vec t)) := ⟨fun i => by unfold lc; split <;> split <;> omega, fun i hi => by unfold lc; rw [hs.st.sup i hi, ht.st.sup i hi]; rfl⟩
  have f1 : Fit (vec s) (lc (vec s) (vec t)) := fun i => by unfold lc; split <;> split <;> omega
  have f2 : Fit (vec t) (lc (vec s) (vec t)) := fun i => by unfold lc; split <;> split <;> omega
  have A := ax (b := vec b) (mu := muv ll b.length (vec ns)) Z.lot
  have l1 : (lcR s t).length = s.length := lcR_len
  have l2 : (lcR s t).length = t.length := l1.trans el
  refine ⟨⟨l1.trans hs.len, by rw [ev]; exact lx, by rw [ev]; exact ho⟩, hs.len, ht.len, ⟨by rw [subR_len l1]; exact l1.trans hs.len, ?_, ?_⟩, ⟨by rw [subR_len l2]; exact l1.trans hs.len, ?_, ?_⟩, ?_, ?_⟩
  · rw [vec_sub1 l1, ev]; exact ld_step hs.st lx f1
  · rw [vec_sub1 l1, ev]; exact okv_step Z hs.st ho
  · rw [vec_sub1 l2, ev]; exact ld_step ht.st lx f2
  · rw [vec_sub1 l2, ev]; exact okv_step Z ht.st ho
  · show Bv ll b.length (vec (subR (lcR s t) s 1)) = Bv ll b.length (vec (subR (lcR s t) t 1))
    rw [vec_sub1 l1, vec_sub1 l2, b_step A hs.st, b_step A ht.st]
  · show Bv ll b.length (vec (subR (lcR s t) s 1)) = Bv ll b.length (vec (lcR s t))
    rw [vec_sub1 l1, b_step A hs.st, ev]
theorem getD_mem {ll : List (List Int)} {k : Nat} (hk : k < ll.length) : ll.getD k [] ∈ ll := by
  rw [List.getD_eq_getElem?_getD, List.getElem?_eq_getElem hk]
  exact List.getElem_mem hk
theorem vec_hold (L : Lot b.length ll) {k : Nat} (hk : k < ll.length) : vec (zeros ll.length ++ ll.getD k []) = holdv ll k := by
  funext i
  rw [vec_app, zeros_len, vec_zeros]
  rfl
theorem okun_iff (Z : St1 ll b ns) {k : Nat} (hk : k < ll.length) : coversB b (ll.getD k []) = true ↔ Okv ll b.length (vec b) (un k) := by
  have K := hold_len Z.lot hk
  have eb : ∀ j, j < b.length → Bv ll b.length (un k) j = (ll.getD k []).getD j 0 := fun j hj => by
    unfold Bv
    rw [if_pos hj, Lb_un hk]
    have : un k (ll.length + j) = 0 := by unfold un; rw [if_neg (by omega)]
    omega
  rw [covers_iff K.1.symm]
  constructor
  · intro h j
    by_cases c : j < b.length
    · rw [eb j c]; exact h j c
    · have : Bv ll b.length (un k) j = 0 := by unfold Bv; rw [if_neg c]
      rw [this]; exact Z.nn j
  · intro h j hj
    rw [← eb j hj]; exact h j
theorem seed_ok (Z : St1 ll b ns) (ew : width ll = b.length) {k : Nat} (hk : k < ll.length) (ho : Okv ll b.length (vec b) (un k)) : TrOk ll b (seed1 ll k) ∧ vec (seed1 ll k).1 = un k ∧ vec (seed1 ll k).2.1 = (fun _ => 0) ∧ vec (seed1 ll k).2.2 = sb (un k) (holdv ll k) := by
  have K := hold_len Z.lot hk
  have en : nOf ll = ll.length + b.length := by unfold nOf; rw [ew]
  have hkn : k < ll.length + b.length := by omega
  have M := hm (g := b.length) Z.lot
  have A := ax (b := vec b) (mu := muv ll b.length (vec ns)) Z.lot
  have e1 : vec (seed1 ll k).1 = un k := by
    show vec (unI k (nOf ll)) = _
    rw [en]
    exact vec_unI hkn
  have e2 : vec (seed1 ll k).2.1 = (fun _ => 0) := vec_zeros
  have lu : (unI k (nOf ll)).length = ll.length + b.length := by rw [en]; exact unI_len hkn
  have lz : (zeros (nOf ll)).length = ll.length + b.length := by rw [zeros_len, en]
  have lh : (zeros ll.length ++ ll.getD k []).length = ll.length + b.length := by rw [List.length_append, zeros_len, K.1]
  have e3 : vec (seed1 ll k).2.2 = sb (un k) (holdv ll k) := by
    show vec (subR (unI k (nOf ll)) (zeros ll.length ++ ll.getD k []) 1) = _
    rw [vec_sub1 (lu.trans lh.symm), vec_hold Z.lot hk]
    exact congrArg (fun v => sb v (holdv ll k)) e1
  have l3 : (seed1 ll k).2.2.length = ll.length + b.length := by
    show (subR (unI k (nOf ll)) (zeros ll.length ++ ll.getD k []) 1).length = _
    rw [subR_len (lu.trans lh.symm)]
    exact lu
  have v1 : vec (subR (seed1 ll k).1 (seed1 ll k).2.1 1) = un k := by
    rw [vec_sub1 (show (seed1 ll k).1.length = (seed1 ll k).2.1.length from lu.trans lz.symm), e1, e2]
    funext i
    show un k i - 0 = un k i
    omega
  have v2 : vec (subR (seed1 ll k).1 (seed1 ll k).2.2 1) = holdv ll k := by
    rw [vec_sub1 (show (seed1 ll k).1.length = (seed1 ll k).2.2.length from lu.trans l3.symm), e1, e3]
    funext i
    show un k i - (un k i - holdv ll k i) = holdv ll k i
    omega
  refine ⟨⟨⟨lu, by rw [e1]; exact ld_un hkn, by rw [e1]; exact ho⟩, lz, l3, ⟨?_, by rw [v1]; exact ld_un hkn, by rw [v1]; exact ho⟩, ⟨?_, by rw [v2]; exact M.ld k hk, by rw [v2]; exact A.okB _ _ (M.bill k hk).symm ho⟩, by rw [v1, v2]; exact (M.bill k hk).symm, by rw [v1, e1]⟩, e1, e2, e3⟩
  · rw [subR_len (show (seed1 ll k).1.length = (seed1 ll k).2.1.length from lu.trans lz.symm)]; exact lu
  · rw [subR_len (show (seed1 ll k).1.length = (seed1 ll k).2.2.length from lu.trans l3.symm)]; exact lu
/-- the beginning -/
theorem PInv.start (Z : St1 ll b ns) (ew : width ll = b.length) : PInv ll b ns [] (fun q => q ∈ seedN ll b ll.length) where
  st s hs := by cases hs
  good q hq := by
    unfold seedN at hq
    obtain ⟨k, hk, h⟩ := List.mem_flatMap.mp hq
    have hk' := List.mem_range.mp hk
    by_cases c : coversB b (ll.getD k []) = true
    · rw [if_pos c] at h
      rw [List.mem_singleton.mp h]
      exact (seed_ok Z ew hk' ((okun_iff Z hk').mp c)).1
    · rw [if_neg c] at h
      cases h
  pair s hs := by cases hs
  seed k hk ho := by
    right
    unfold seedN
    refine List.mem_flatMap.mpr ⟨k, List.mem_range.mpr hk, ?_⟩
    rw [if_pos ((okun_iff Z hk).mpr ho)]
    exact List.mem_singleton.mpr rfl
  nd := List.nodup_nil
  ab s hs := by cases hs
/-- a triple that is handled waits no more -/
theorem PInv.less {ss : List (List Int)} {T T' : Tr → Prop} (Z : St1 ll b ns) (ew : width ll = b.length) (I : PInv ll b ns ss T) {q : Tr} (h1 : ∀ x, T x → x = q ∨ T' x) (h2 : ∀ x, T' x → T x) (hq : Hd (inS ss) (vec q.1) (vec q.2.1) (vec q.2.2)) : PInv ll b ns ss T' where
  st := I.st
  good x hx := I.good x (h2 x hx)
  pair s hs t ht ho := by
    have el : s.length = t.length := (I.st s hs).len.trans (I.st t ht).len.symm
    rcases I.pair s hs t ht ho with h | h | h | h | h
    · exact .inl h
    · exact .inr (.inl h)
    · exact .inr (.inr (.inl h))
    · rcases h1 _ h with e | h
      · subst e
        have hq' : Hd (inS ss) (vec (lcR s t)) (vec s) (vec t) := hq
        rw [vec_lcR el] at hq'
        exact .inr (.inr (.inl hq'))
      · exact .inr (.inr (.inr (.inl h)))
    · rcases h1 _ h with e | h
      · subst e
        have hq' : Hd (inS ss) (vec (lcR t s)) (vec t) (vec s) := hq
        rw [vec_lcR el.symm, lc_comm] at hq'
        exact .inr (.inr (.inl (hd_symm hq')))
      · exact .inr (.inr (.inr (.inr h)))
  seed k hk ho := by
    rcases I.seed k hk ho with h | h
    · exact .inl h
    · rcases h1 _ h with e | h
      · obtain ⟨_, e1, e2, e3⟩ := seed_ok Z ew hk ho
        rw [← e, e1, e2, e3] at hq
        exact .inl hq
      · exact .inr h
  nd := I.nd
  ab := I.ab
/-- a triple whose ends come to one load -/
theorem nought_hd {ss : List (List Int)} {q : Tr} (O : TrOk ll b q) {u v : List Int} (h1 : Rt (inS ss) (vec (subR q.1 q.2.1 1)) (vec u)) (h2 : Rt (inS ss) (vec (subR q.1 q.2.2 1)) (vec v)) (e : vec u = vec v) : Hd (inS ss) (vec q.1) (vec q.2.1) (vec q.2.2) := by
  rw [vec_sub1 (O.x.len.trans O.l1.symm)] at h1
  rw [vec_sub1 (O.x.len.trans O.l2.symm)] at h2
  exact .inl ⟨vec u, h1, by rw [e]; exact h2⟩
/-- all lesser loads are led to their best -/
theorem PInv.cut {ss : List (List Int)} {T : Tr → Prop} (Z : St1 ll b ns) (ew : width ll = b.length) (I : PInv ll b ns ss T) {d : Int} (dl : ∀ q, T q → d ≤ dgv ll b.length (vec q.1)) : Full (ll.length + b.length) ll.length (fun x => Okv ll b.length (vec b) x ∧ dgv ll b.length x < d) (holdv ll) (inS ss) where
  pair s t hs ht ho := by
    obtain ⟨s', hs', rfl⟩ := hs
    obtain ⟨t', ht', rfl⟩ := ht
    have el : s'.length = t'.length := (I.st s' hs').len.trans (I.st t' ht').len.symm
    rcases I.pair s' hs' t' ht' ho.1 with z | z | z | z | z
    · exact .inl z
    · exact .inr (.inl z)
    · exact .inr (.inr z)
    · have h1 := dl _ z
      have h2 : d ≤ dgv ll b.length (vec (lcR s' t')) := h1
      rw [vec_lcR el] at h2
      have := ho.2
      omega
    · have h1 := dl _ z
      have h2 : d ≤ dgv ll b.length (vec (lcR t' s')) := h1
      rw [vec_lcR el.symm, lc_comm] at h2
      have := ho.2
      omega
  seed k hk ho := by
    rcases I.seed k hk ho.1 with z | z
    · exact z
    · have h1 := dl _ z
      rw [(seed_ok Z ew hk ho.1).2.1] at h1
      have := ho.2
      omega
theorem np_symm {g : Nat} {u v : Vec} (e : Bv ll g u = Bv ll g v) (h : NP ll g u v) : NP ll g v u := fun a c ha hc fa fc eb hd => by
  have e1 : dgv ll g u = dgv ll g v := by unfold dgv; rw [e]
  have e2 : dgv ll g a = dgv ll g c := by unfold dgv; rw [eb]
  exact (h c a hc ha fc fa eb.symm (by omega)).symm
/-- nothing in common -/
theorem np_apart {g : Nat} (L : Lot g ll) {u v : Vec} (hu : Ld (ll.length + g) u) (hv : Ld (ll.length + g) v) (e : Bv ll g u = Bv ll g v) (ne : u ≠ v) (h : NP ll g u v) (i : Nat) : u i = 0 ∨ v i = 0 := by
  refine Classical.byContradiction fun no => ?_
  have hi1 : 0 < u i := by
    have := hu.1 i
    have : u i ≠ 0 := fun z => no (.inl z)
    omega
  have hi2 : 0 < v i := by
    have := hv.1 i
    have : v i ≠ 0 := fun z => no (.inr z)
    omega
  have hin : i < ll.length + g := by
    refine Classical.byContradiction fun z => ?_
    have := hu.2 i (by omega)
    omega
  have fu : ∀ {x : Vec}, Ld (ll.length + g) x → 0 < x i → Fit (un i) x := fun {x} hx hxi j => by
    unfold un
    by_cases c : j = i
    · rw [if_pos c, c]; omega
    · rw [if_neg c]; exact hx.1 j
  have A := ax (b := fun _ => 0) (mu := fun _ => 0) L
  have d1 := A.dsb u (un i)
  have dp := A.dpos i hin
  have := h (sb u (un i)) (sb v (un i)) (fit_ld (ld_un hin) hu (fu hu hi1)) (fit_ld (ld_un hin) hv (fu hv hi2)) (fun j => by
    have := (ld_un (n := ll.length + g) hin).1 j
    show u j - un i j ≤ u j
    omega) (fun j => by
    have := (ld_un (n := ll.length + g) hin).1 j
    show v j - un i j ≤ v j
    omega) (by rw [Bv_sub, Bv_sub, e]) (by omega)
  refine ne (funext fun j => ?_)
  have := congrFun this j
  have h2 : u j - un i j = v j - un i j := this
  omega
/-- a new step -/
theorem new_step {ss : List (List Int)} {T : Tr → Prop} {D : Nat} {d : Int} (Z : St1 ll b ns) (ew : width ll = b.length) (Fw : Few ll b D) (I : PInv ll b ns ss T) (dl : ∀ q, T q → d ≤ dgv ll b.length (vec q.1)) {u v s : List Int} (hdu : dgv ll b.length (vec u) ≤ d) (iv : ∀ t ∈ ss, ¬ Fit (vec t) (vec v)) (hne : vec u ≠ vec v) (hu : RowOk ll b u) (hv : RowOk ll b v) (eb : Bv ll b.length (vec u) = Bv ll b.length (vec v)) (iu : ∀ t ∈ ss, ¬ Fit (vec t) (vec u)) (ls : s.length = ll.length + b.length) (es : vec s = sb (vec u) (vec v)) (fp : FP (rkv ll.length b.length (vec ns) (vec s))) :
    StR ll b ns s ∧ RowOk ll b (abv s) ∧ abv s ∉ ss.map abv ∧ Fit (vec s) (vec u) ∧ sb (vec u) (vec s) = vec v ∧ vec (abv s) = vec u ∧ (sm (ll.length + b.length) (vec u) ≤ D ∧ (Opt ll b → ∀ i, i < ll.length → -9 ≤ vec s i ∧ vec s i ≤ 9)) := by
  have A := ax (b := vec b) (mu := muv ll b.length (vec ns)) Z.lot
  have np : NP ll b.length (vec u) (vec v) := fun a c ha hc fa fc eb' lt => no_parts A (fun s ⟨s', hs', e⟩ => by rw [e]; exact (I.st s' hs').st) (hm Z.lot) d (I.cut Z ew dl) (fun x y hx hy ox oy e => mu_inj Z hx hy ox oy e) hu.ld hv.ld hu.ok hdu (fun s ⟨s', hs', e⟩ => by rw [e]; exact iu s' hs') (fun s ⟨s', hs', e⟩ => by rw [e]; exact iv s' hs') ha hc fa fc eb' lt
  have big := Fw.2.2 _ _ hu.ld hv.ld hu.ok hv.ok eb hne np
  have bigv := Fw.2.2 _ _ hv.ld hu.ld hv.ok hu.ok eb.symm (fun z => hne z.symm) (np_symm eb np)
  have D6 := Fw.2.1
  have apart := np_apart Z.lot hu.ld hv.ld eb hne np
  have sml : ∀ z ∈ s, -1000000 ≤ z ∧ z ≤ 1000000 := fun z hz => by
    obtain ⟨i, hi, e2⟩ := List.mem_iff_getElem.mp hz
    have ez := vec_at (r := s) (i := i) (z := z) (by rw [List.getElem?_eq_getElem hi, e2])
    rw [es] at ez
    have h1 := sm_one (g := ll.length + b.length) (x := vec u) (i := i) (fun i _ => hu.ld.1 i) (by omega)
    have h2 := sm_one (g := ll.length + b.length) (x := vec v) (i := i) (fun i _ => hv.ld.1 i) (by omega)
    have h3 := hu.ld.1 i
    have h4 := hv.ld.1 i
    have ez' : vec u i - vec v i = z := ez
    omega
  have va : ∀ i, vec (abv s) i = if vec s i < 0 then 0 else vec s i := fun i => by rw [vec_abv]
  have se : ∀ i, vec s i = vec u i - vec v i := fun i => by rw [es]; rfl
  have ups : vec (abv s) = vec u := by
    funext i
    rw [va i, se i]
    have := hu.ld.1 i
    have := hv.ld.1 i
    rcases apart i with q | q <;> split <;> omega
  have hst : StR ll b ns s := ⟨ls, sml, st_of Z (fun i => by
      rw [es, Bv_sub, eb]
      show Bv ll b.length (vec v) i - Bv ll b.length (vec v) i = 0
      omega) (fun i hi => by rw [es]; show vec u i - vec v i = 0; rw [hu.ld.2 i hi, hv.ld.2 i hi]; rfl) fp, fun a ha fa la y hy e => by
      rw [ups] at fa la
      exact below_best A (fun s ⟨s', hs', e⟩ => by rw [e]; exact (I.st s' hs').st) (hm Z.lot) d (I.cut Z ew dl) hu.ld hu.ok hdu (fun s ⟨s', hs', e⟩ => by rw [e]; exact iu s' hs') ha fa la hy e⟩
  have le : ∀ i, vec (abv s) i ≤ vec u i := fun i => by
    rw [va i, se i]
    have := hu.ld.1 i
    have := hv.ld.1 i
    split <;> omega
  have la : Ld (ll.length + b.length) (vec (abv s)) := ⟨fun i => by rw [va i]; split <;> omega, fun i hi => by rw [va i, hst.st.sup i hi]; rfl⟩
  have lr : Ld (ll.length + b.length) (sb (vec u) (vec (abv s))) := ⟨fun i => by have := le i; show 0 ≤ vec u i - vec (abv s) i; omega, fun i hi => by show vec u i - vec (abv s) i = 0; rw [hu.ld.2 i hi, la.2 i hi]; rfl⟩
  have eu : vec u = ad (vec (abv s)) (sb (vec u) (vec (abv s))) := by
    funext i
    show vec u i = vec (abv s) i + (vec u i - vec (abv s) i)
    omega
  refine ⟨hst, ⟨by unfold abv; rw [List.length_map]; exact ls, la, A.okd _ _ la lr (by rw [← eu]; exact hu.ok)⟩, fun h => ?_, fun i => by rw [se i]; have := hv.ld.1 i; omega, by
    funext i
    show vec u i - vec s i = vec v i
    rw [se i]
    omega, by
    funext i
    rw [va i, se i]
    have := hu.ld.1 i
    have := hv.ld.1 i
    rcases apart i with q | q <;> split <;> omega, big, fun o i hi => by rw [se i]; exact o.2.2 _ _ hu.ld hv.ld hu.ok hv.ok eb hne np i hi⟩
  obtain ⟨t, ht, e⟩ := List.mem_map.mp h
  refine iu t ht fun i => ?_
  have h1 := le i
  rw [← e, vec_abv] at h1
  have h2 : (if vec t i < 0 then 0 else vec t i) ≤ vec u i := h1
  split at h2 <;> omega
theorem inS_app {ss : List (List Int)} {s : List Int} : ∀ v, inS ss v → inS (ss ++ [s]) v := fun v ⟨t, ht, e⟩ => ⟨t, List.mem_append_left _ ht, e⟩
/-- with the new step the triple is handled, and its own pairs wait -/
theorem PInv.more {ss : List (List Int)} {T T' : Tr → Prop} (Z : St1 ll b ns) (ew : width ll = b.length) (I : PInv ll b ns ss T) {q : Tr} {s : List Int} (hs : StR ll b ns s) (ha : RowOk ll b (abv s)) (hna : abv s ∉ ss.map abv) (h1 : ∀ x, T x → x = q ∨ T' x) (h2 : ∀ x, T' x → T x) (hq : Hd (inS (ss ++ [s])) (vec q.1) (vec q.2.1) (vec q.2.2)) :
    PInv ll b ns (ss ++ [s]) (fun x => T' x ∨ x ∈ newN (ll ++ unitsR b.length) b s ss ss.length) := by
  have I2 : PInv ll b ns (ss ++ [s]) (fun x => T x ∨ x ∈ newN (ll ++ unitsR b.length) b s ss ss.length) := by
    have newT : ∀ t ∈ ss, Okv ll b.length (vec b) (lc (vec s) (vec t)) → (∀ i, ¬ (0 < vec s i ∧ 0 < vec t i)) ∨ (∃ i, vec s i < 0 ∧ vec t i < 0) ∨ (lcR s t, s, t) ∈ newN (ll ++ unitsR b.length) b s ss ss.length := fun t ht ho => by
      cases c : condB (ll ++ unitsR b.length) b s t with
      | false =>
        rcases cond_false Z.nn hs.len ((I.st t ht).len.trans hs.len.symm) c ho with h | h
        · exact .inl h
        · exact .inr (.inl h)
      | true =>
        right; right
        unfold newN
        rw [List.take_length]
        refine List.mem_flatMap.mpr ⟨t, ht, ?_⟩
        rw [if_pos c]
        exact List.mem_singleton.mpr rfl
    refine ⟨fun t ht => ?_, fun x hx => ?_, fun t ht t' ht' ho => ?_, fun k hk ho => ?_, ?_, fun t ht => ?_⟩
    · rcases List.mem_append.mp ht with h | h
      · exact I.st t h
      · rw [List.mem_singleton.mp h]; exact hs
    · rcases hx with hx | hx
      · exact I.good x hx
      · unfold newN at hx
        rw [List.take_length] at hx
        obtain ⟨t, ht, h⟩ := List.mem_flatMap.mp hx
        by_cases c : condB (ll ++ unitsR b.length) b s t = true
        · rw [if_pos c] at h
          rw [List.mem_singleton.mp h]
          have hl := (I.st t ht).len.trans hs.len.symm
          have := cond_true Z.nn hs.len hl c
          rw [vec_lcR hl.symm] at this
          exact pair_ok Z hs (I.st t ht) this
        · rw [if_neg c] at h
          cases h
    · rcases List.mem_append.mp ht with h | h
      · rcases List.mem_append.mp ht' with h' | h'
        · rcases I.pair t h t' h' ho with z | z | z | z | z
          · exact .inl z
          · exact .inr (.inl z)
          · exact .inr (.inr (.inl (z.mono inS_app)))
          · exact .inr (.inr (.inr (.inl (.inl z))))
          · exact .inr (.inr (.inr (.inr (.inl z))))
        · rw [List.mem_singleton.mp h'] at ho ⊢
          rw [lc_comm] at ho
          rcases newT t h ho with z | ⟨i, z1, z2⟩ | z
          · exact .inl fun i hi => z i ⟨hi.2, hi.1⟩
          · exact .inr (.inl ⟨i, z2, z1⟩)
          · exact .inr (.inr (.inr (.inr (.inr z))))
      · rw [List.mem_singleton.mp h] at ho ⊢
        rcases List.mem_append.mp ht' with h' | h'
        · rcases newT t' h' ho with z | z | z
          · exact .inl z
          · exact .inr (.inl z)
          · exact .inr (.inr (.inr (.inl (.inr z))))
        · rw [List.mem_singleton.mp h']
          exact .inr (.inr (.inl (.inl ⟨_, .refl _, .refl _⟩)))
    · rcases I.seed k hk ho with z | z
      · exact .inl (z.mono inS_app)
      · exact .inr (.inl z)
    · rw [List.map_append]
      exact nd_snoc I.nd hna
    · rcases List.mem_append.mp ht with h | h
      · exact I.ab t h
      · rw [List.mem_singleton.mp h]; exact ha
  exact I2.less Z ew (q := q) (fun x hx => by
    rcases hx with hx | hx
    · rcases h1 x hx with e | h
      · exact .inl e
      · exact .inr (.inl h)
    · exact .inr (.inr hx)) (fun x hx => hx.elim (fun h => .inl (h2 x h)) .inr) hq
/-- when nothing waits any more -/
theorem PInv.full {ss : List (List Int)} {T : Tr → Prop} (I : PInv ll b ns ss T) (h : ∀ q, ¬ T q) : Full (ll.length + b.length) ll.length (Okv ll b.length (vec b)) (holdv ll) (inS ss) where
  pair s t hs ht ho := by
    obtain ⟨s', hs', rfl⟩ := hs
    obtain ⟨t', ht', rfl⟩ := ht
    rcases I.pair s' hs' t' ht' ho with z | z | z | z | z
    · exact .inl z
    · exact .inr (.inl z)
    · exact .inr (.inr z)
    · exact absurd z (h _)
    · exact absurd z (h _)
  seed k hk ho := by
    rcases I.seed k hk ho with z | z
    · exact z
    · exact absurd z (h _)
end
end HL

set_option pp.maxSteps 3000
namespace HL
open PySem PySem.Spec PyProof.Rows L2
open C8 (pss_cut)
open RZ (pi_zipA ItzT iZipA)
open BL (abv ngR askL askLi fitB vec RowOk StR inS St1 muv fit_iff step_pos row_step)
theorem scWs : FnScope ["lot", "wish", "bound", "columns", "costs", "waiting", "steps", "pairs", "least", "one", "other", "change"] ["lot", "wish", "bound"] (defScope sWithinS) := ⟨rfl, rfl, rfl, by decide +kernel, rfl, by decide +kernel, by decide +kernel⟩
section
variable {P : Program} {w : World} {K : PySem.W.Frag} {mg : Str → Option Value} {base : Heap}
def tri : Nat → Nat
  | 0 => 0
  | m + 1 => tri m + m
theorem tri_sq : ∀ m, 2 * tri m + m = m * m
  | 0 => rfl
  | m + 1 => by
    have := tri_sq m
    show 2 * (tri m + m) + (m + 1) = (m + 1) * (m + 1)
    have e : (m + 1) * (m + 1) = m * m + 2 * m + 1 := by
      rw [Nat.add_mul, Nat.one_mul, Nat.mul_add m m 1, Nat.mul_one]
      omega
    rw [e]
    omega
theorem tri_le : ∀ {m k : Nat}, m ≤ k → tri m ≤ tri k
  | m, 0, h => by
    have : m = 0 := by omega
    subst this
    exact Nat.le_refl _
  | m, k + 1, h => by
    by_cases c : m = k + 1
    · rw [c]; exact Nat.le_refl _
    · have := tri_le (m := m) (k := k) (by omega)
      show tri m ≤ tri k + k
      omega
theorem tri_few {m : Nat} (h : m ≤ 5005) : tri m ≤ 12525012 := by
  have h1 := tri_sq m
  have h2 := Nat.mul_le_mul h h
  omega
theorem WD.with {H : Hp} {d a : Addr} {en : List En} (W : WD H [] d en) (na : H a = none) : WD (upd H a (.lst [])) [a] d en ∧ Same (cutM (mt d en []) H) (cutM (mt d en [a]) (upd H a (.lst []))) := by
  have fa := W.fresh na
  have nd := W.nd
  have s1 := same_new (o := .lst []) na
  have inM : ∀ b, b ∈ mt d en [a] ↔ b ∈ mt d en [] ∨ b = a := fun b => by
    unfold mt
    simp only [List.append_nil, List.mem_cons, List.mem_append, List.not_mem_nil, or_false]
    constructor
    · rintro (h | h | h)
      · exact .inl (.inl h)
      · exact .inl (.inr h)
      · exact .inr h
    · rintro ((h | h) | h)
      · exact .inl h
      · exact .inr (.inl h)
      · exact .inr (.inr h)
  have sc : Same (cutM (mt d en []) H) (cutM (mt d en [a]) (upd H a (.lst []))) := fun b o e => by
    have e' := cut_le _ _ e
    refine cut_of (fun h => ?_) (s1 _ _ e')
    rcases (inM b).mp h with h | h
    · unfold cutM at e
      rw [if_pos h] at e
      cases e
    · rw [h, na] at e'
      cases e'
  refine ⟨⟨?_, s1 _ _ W.dict, W.keys, fun e he => ?_, fun b hb => ?_⟩, sc⟩
  · unfold mt at nd fa ⊢
    rw [List.append_nil] at nd fa
    obtain ⟨n1, n2⟩ := List.nodup_cons.mp nd
    refine List.nodup_cons.mpr ⟨fun h => ?_, nd_snoc n2 fun h => fa (List.mem_cons_of_mem _ h)⟩
    rcases List.mem_append.mp h with h | h
    · exact n1 h
    · exact fa (by rw [List.mem_singleton.mp h]; exact List.mem_cons_self)
  · obtain ⟨vs, h1, h2⟩ := W.lists e he
    exact ⟨vs, s1 _ _ h1, h2.same sc⟩
  · rw [List.mem_singleton.mp hb]
    exact ⟨[], upd_same⟩
theorem step_hd {ll : List (List Int)} {b : List Int} {ss : List (List Int)} {q : Tr} {s u v : List Int} (O : TrOk ll b q) (h1 : BL.Rt (inS ss) (vec (subR q.1 q.2.1 1)) (vec u)) (h2 : BL.Rt (inS ss) (vec (subR q.1 q.2.2 1)) (vec v))
    (h : (BL.Fit (vec s) (vec u) ∧ BL.sb (vec u) (vec s) = vec v) ∨ (BL.Fit (vec s) (vec v) ∧ BL.sb (vec v) (vec s) = vec u)) : BL.Hd (inS (ss ++ [s])) (vec q.1) (vec q.2.1) (vec q.2.2) := by
  rw [BL.vec_sub1 (O.x.len.trans O.l1.symm)] at h1
  rw [BL.vec_sub1 (O.x.len.trans O.l2.symm)] at h2
  have g1 := h1.mono (inS_app (s := s))
  have g2 := h2.mono (inS_app (s := s))
  have hs : inS (ss ++ [s]) (vec s) := ⟨s, List.mem_append_right _ (List.mem_singleton.mpr rfl), rfl⟩
  rcases h with ⟨f, e⟩ | ⟨f, e⟩
  · exact .inl ⟨vec v, g1.trans (.step hs f (by rw [e]; exact .refl _)), g2⟩
  · exact .inl ⟨vec u, g1, g2.trans (.step hs f (by rw [e]; exact .refl _))⟩
theorem cost_rows {k g : Nat} {ns : List Int} (e : ns.length = k) (hn : ∀ z ∈ ns, -99 ≤ z ∧ z ≤ 99) : ∀ r ∈ costL k g ns, r.length = k + g ∧ ∀ z ∈ r, -1000 ≤ z ∧ z ≤ 1000 := fun r hr => by
  have zz : ∀ (n : Nat) (z : Int), z ∈ zeros n → z = 0 := fun n z h => List.eq_of_mem_replicate h
  unfold costL at hr
  rcases List.mem_append.mp hr with h | h
  · rcases List.mem_cons.mp h with h | h
    · subst h
      refine ⟨by rw [List.length_append, zeros_len, List.length_replicate], fun z hz => ?_⟩
      rcases List.mem_append.mp hz with h | h
      · rw [zz _ _ h]; decide
      · rw [List.eq_of_mem_replicate h]; decide
    · rw [List.mem_singleton.mp h]
      refine ⟨by rw [List.length_append, zeros_len, e], fun z hz => ?_⟩
      rcases List.mem_append.mp hz with h | h
      · have := hn z h; omega
      · rw [zz _ _ h]; decide
  · obtain ⟨j, hj, rfl⟩ := List.mem_map.mp h
    have hjl : j < k + g := by
      unfold placesN at hj
      rcases List.mem_append.mp hj with hm | hm
      · obtain ⟨x, hx, rfl⟩ := List.mem_map.mp hm
        have := List.mem_range.mp hx
        omega
      · have := List.mem_range.mp hm
        omega
    refine ⟨unI_len hjl, fun z hz => ?_⟩
    unfold unI at hz
    rcases List.mem_append.mp hz with h | h
    · rcases List.mem_append.mp h with h | h
      · rw [zz _ _ h]; decide
      · rw [List.mem_singleton.mp h]; decide
    · rw [zz _ _ h]; decide
theorem cost_len {k g : Nat} {ns : List Int} : (costL k g ns).length = g + k + 2 := by
  unfold costL placesN
  simp
/-- under which key a triple waits -/
def kyD (ll : List (List Int)) (g : Nat) (q : Tr) : Int := BL.dgv ll g (vec q.1)
def SZ (ll : List (List Int)) (b : List Int) (D : Nat) (ss : List (List Int)) : Prop := ∀ s ∈ ss, BL.sm (ll.length + b.length) (vec (abv s)) ≤ D ∧ (Opt ll b → ∀ i, i < ll.length → -9 ≤ vec s i ∧ vec s i ≤ 9)
theorem ky_seed {ll : List (List Int)} {b : List Int} (ew : width ll = b.length) (L : BL.Lot b.length ll) {i : Nat} (hi : i < ll.length) : kyD ll b.length (seed1 ll i) = (ll.getD i []).sum := by
  have e : vec (seed1 ll i).1 = BL.un i := vec_unI (by unfold nOf; omega)
  unfold kyD
  rw [e]
  have hk := BL.hold_len L hi
  rw [← BL.sm_getD (g := b.length) (h := ll.getD i []) hk.1]
  unfold BL.dgv
  refine BL.sm_congr fun j hj => ?_
  unfold BL.Bv
  rw [if_pos hj, BL.Lb_un hi]
  have : BL.un i (ll.length + j) = 0 := by unfold BL.un; rw [if_neg (by omega)]
  omega
theorem ky_pair {ll : List (List Int)} {b s t : List Int} (e : s.length = ll.length + b.length) : kyD ll b.length (lcR s t, s, t) = (billR (ll ++ unitsR b.length) (lcR s t) b.length).sum := by
  rw [← BL.sm_getD (g := b.length) billR_len]
  unfold kyD BL.dgv
  exact BL.sm_congr fun j hj => (billR_at hj (by rw [lcR_len]; exact e)).symm
theorem new_of {cols : List (List Int)} {b s : List Int} {ss : List (List Int)} {q : Tr} {i : Nat} (h : q ∈ newN cols b s ss i) : ∃ t ∈ ss, q = (lcR s t, s, t) := by
  unfold newN at h
  obtain ⟨t, ht, h⟩ := List.mem_flatMap.mp h
  by_cases c : condB cols b s t = true
  · rw [if_pos c] at h
    exact ⟨t, List.mem_of_mem_take ht, List.mem_singleton.mp h⟩
  · rw [if_neg c] at h
    cases h
theorem new_low {ll : List (List Int)} {b ns s t : List Int} (Z : St1 ll b ns) (hs : StR ll b ns s) (ht : StR ll b ns t) (ha : RowOk ll b (abv s)) : BL.dgv ll b.length (vec (abv s)) ≤ kyD ll b.length (lcR s t, s, t) := by
  have el : s.length = t.length := hs.len.trans ht.len.symm
  have ev := vec_lcR el
  have A := BL.ax (b := vec b) (mu := muv ll b.length (vec ns)) Z.lot
  have lx : BL.Ld (ll.length + b.length) (BL.lc (vec s) (vec t)) := ⟨fun i => by unfold BL.lc; split <;> split <;> omega, fun i hi => by unfold BL.lc; rw [hs.st.sup i hi, ht.st.sup i hi]; rfl⟩
  have f : BL.Fit (vec (abv s)) (BL.lc (vec s) (vec t)) := fun i => by
    rw [BL.vec_abv]
    show (if vec s i < 0 then 0 else vec s i) ≤ BL.lc (vec s) (vec t) i
    unfold BL.lc
    split <;> split <;> split <;> omega
  have h1 := A.dnn _ (BL.fit_ld ha.ld lx f)
  have h2 := A.dsb (BL.lc (vec s) (vec t)) (vec (abv s))
  unfold kyD
  show BL.dgv ll b.length (vec (abv s)) ≤ BL.dgv ll b.length (vec (lcR s t))
  rw [ev]
  omega
def spStepsW (K : PySem.W.Frag) (C : Addr) : Sp := fun vs H Q _ => ∃ (p v bd : Addr) (as : List Addr) (ll : List (List Int)) (ws b : List Int) (D : Nat), vs = [.ref p, .ref v, .ref bd] ∧ RowsAt H p as ll ∧ flaw ll = none ∧ IT K H v ws ∧ okWish ll.length ws = true ∧ IntsAt H bd b ∧ b.length = width ll ∧ St1 ll b (numI ll.length ws) ∧ Few ll b D ∧
  ∀ H' a us ss, Same H H' → H' a = some (.lst us) → StepsIn C H' us ss → (∀ s ∈ ss, StR ll b (numI ll.length ws) s) → BL.Full (ll.length + b.length) ll.length (BL.Okv ll b.length (vec b)) (BL.holdv ll) (inS ss) → (ss.map abv).Nodup → (∀ s ∈ ss, RowOk ll b (abv s) ∧ BL.sm (ll.length + b.length) (vec (abv s)) ≤ D) → ss.length ≤ 5005 → Q (.ref a) H'
theorem ok_stepsW {f C fI : Addr} {fd fdI : FuncData} (F : Fun K "steps_within" "steps_within" sWithinS f fd) (B : Bl mg) (T : StepTxt K mg C) (MK : Mk K C fI) (GM : FnOk P w K mg base CX0 2 fI fdI ["self", "change"] (spStepInit C)) (bM : Binds K fdI ["self", "change"] [])
    (CC : Cal P w K mg base CX0 4 "columns_of" ["lot"] spCols) (CK : Cal P w K mg base CX0 4 "costs_of" ["lot", "wish"] (spCosts K)) (CS : Cal P w K mg base CX0 4 "seeds_of" ["lot", "bound"] spSeeds) (CI : Cal P w K mg base CX0 2 "is_spanned" ["least", "one", "other", "steps"] (spSpanned C)) (CLe : CalLess P w K mg base)
    (CT : Cal P w K mg base CX0 3 "settled" ["load", "steps"] (spSettled C)) (CN : Cal P w K mg base CX0 1 "is_nought" ["row"] spNought) (CH : Cal P w K mg base CX0 2 "take_in" ["step", "steps", "waiting", "columns", "bound"] (spTakeIn K C)) (CW : Cal P w K mg base CX0 2 "worse_first" ["change", "costs"] spWorse) :
    FnOk P w K mg base CX0 5 f fd ["lot", "wish", "bound"] (spStepsW K C) := by
  obtain ⟨fC, fdC, GC, gC, kC, bC⟩ := CC.ex
  obtain ⟨fK, fdK, GK, gK, kK, bK⟩ := CK.ex
  obtain ⟨fS, fdS, GS, gS, kS, bS⟩ := CS.ex
  obtain ⟨fI', fdI', GI, gI, kI, bI⟩ := CI.ex
  obtain ⟨fL, fdL, tL, GL, gL, kL, bL⟩ := CLe
  obtain ⟨fT, fdT, GT, gT, kT, bT⟩ := CT.ex
  obtain ⟨fN, fdN, GN, gN, kN, bN⟩ := CN.ex
  obtain ⟨fH, fdH, GH, gH, kH, bH⟩ := CH.ex
  obtain ⟨fW, fdW, GW, gW, kW, bW⟩ := CW.ex
  have vd : Vals [V.int 1] [Value.int 1 tL] := .cons ⟨_, rfl⟩ .nil
  refine F.ok scWs (fun vs H Q E h => ?_) (fun cdv A outer s H vs Q E hr h => ?_)
  · obtain ⟨p, v, bd, as, ll, ws, b, D, rfl, _⟩ := h
    rfl
  · obtain ⟨p, v, bd, as, ll, ws, b, D, rfl, R, ef, hW, eo, hB, hbl, Z, Fw, q⟩ := h
    have hok := flaw_ok ef
    have hnl := numI_len eo
    have hni := numI_in eo
    have hrows := flaw_rows ef
    have n8 : ll.length + b.length ≤ 8 := by omega
    refine ⟨_, (pss_cons (ps_set (i := 3) scWs.nd rfl (.inl rfl) (pe_call GC (hr.mono (by decide)) (by rfl) gC kC bC .nil pass0 (pa_cons (pv 0) pa_nil)))
      (pss_cons (ps_set (i := 4) scWs.nd rfl (.inl rfl) (pe_call GK (hr.mono (by decide)) (by rfl) gK kK bK .nil pass0 (pa_cons (pv 0) (pa_cons (pv 1) pa_nil))))
      (pss_cons (ps_set (i := 5) scWs.nd rfl (.inl rfl) (pe_call GS (hr.mono (by decide)) (by rfl) gS kS bS .nil pass0 (pa_cons (pv 0) (pa_cons (pv 2) pa_nil))))
      (pss_cons (ps_set (i := 6) scWs.nd rfl (.inl rfl) (pe_lst pa_nil))
      (pss_cons (ps_while PassesOwn.never (pt_truth (pv 5) (by intro _; rfl))
      (pss_cons (ps_set (i := 7) scWs.nd rfl (.inl rfl) (pe_dpop1 (pv 5) (pe_callB (cr_minK rfl) (by rfl) B.min (by decide +kernel) (pa_cons (pv 5) pa_nil)) ⟨rfl, rfl, rfl, rfl⟩))
      (pss_one (ps_for PassesOwn.never rfl (pi_list (pv 7)) (pg_tup rfl (pgs_cons (pg_name (i := 8) scWs.nd rfl (.inl rfl)) (pgs_cons (pg_name (i := 9) scWs.nd rfl (.inl rfl)) (pgs_cons (pg_name (i := 10) scWs.nd rfl (.inl rfl)) pgs_nil))))
      (pss_one (ps_if (pt_not (pt_val (pe_call GI (hr.mono (by decide)) (by rfl) gI kI bI .nil pass0 (pa_cons (pv 8) (pa_cons (pv 9) (pa_cons (pv 10) (pa_cons (pv 6) pa_nil))))))) (pss_cons (ps_set (i := 11) scWs.nd rfl (.inl rfl) (pe_call GL (hr.mono (by decide)) (by rfl) gL kL bL vd pass0 (pa_cons (pe_call GT (hr.mono (by decide)) (by rfl) gT kT bT .nil pass0 (pa_cons (pe_call GL (hr.mono (by decide)) (by rfl) gL kL bL vd pass0 (pa_cons (pv 8) (pa_cons (pv 9) pa_nil))) (pa_cons (pv 6) pa_nil))) (pa_cons (pe_call GT (hr.mono (by decide)) (by rfl) gT kT bT .nil pass0 (pa_cons (pe_call GL (hr.mono (by decide)) (by rfl) gL kL bL vd pass0 (pa_cons (pv 8) (pa_cons (pv 10) pa_nil))) (pa_cons (pv 6) pa_nil))) pa_nil))))
      (pss_one (ps_if (pt_not (pt_val (pe_call GN (hr.mono (by decide)) (by rfl) gN kN bN .nil pass0 (pa_cons (pv 11) pa_nil)))) (pss_one (ps_expr (pe_call GH (hr.mono (by decide)) (by rfl) gH kH bH .nil pass0 (pa_cons (pe_make MK GM (hr.mono (by decide)) (by rfl) T.mgC bM .nil pass0 (pa_cons (pe_call GW (hr.mono (by decide)) (by rfl) gW kW bW .nil pass0 (pa_cons (pv 11) (pa_cons (pv 4) pa_nil))) pa_nil)) (pa_cons (pv 6) (pa_cons (pv 5) (pa_cons (pv 3) (pa_cons (pv 2) pa_nil)))))))) pss_nil))) pss_nil))))))
      (pss_one (ps_ret (pv 6)))))))), ?_⟩
    refine ⟨.ref p, rfl, p, as, ll, rfl, R, ef, fun H1 cl cs s1 hC => ?_⟩
    refine ⟨.ref p, rfl, .ref v, rfl, p, v, as, ll, ws, rfl, R.same s1, ef, hW.same s1, eo, fun H2 kz kzs s2 hk hkR => ?_⟩
    have s12 := s1.trans s2
    refine ⟨.ref p, rfl, .ref bd, rfl, p, bd, as, ll, b, rfl, R.same s12, ef, hB.same s12, hbl, fun H3 d en c3 W3 N3 l3 m3 o3 => ?_⟩
    have o3 := o3 (kyD ll b.length) fun i hi => ky_seed hbl.symm Z.lot hi
    refine ⟨Nat.zero_le _, fun a na => ?_⟩
    obtain ⟨W4, c4⟩ := W3.with na
    have c24 := c3.trans c4
    have ha4 : (upd H3 a (.lst [])) a = some (.lst []) := upd_same
    generalize upd H3 a (.lst []) = H4 at W4 c4 c24 ha4 ⊢
    have I0 : PInv ll b (numI ll.length ws) [] (fun q => q ∈ tot en) := by
      have := PInv.start (ns := numI ll.length ws) Z hbl.symm
      have e : (fun q => q ∈ tot en) = (fun q => q ∈ seedN ll b ll.length) := by
        funext q
        exact propext (m3 q)
      rw [e]
      exact this
    rw [← hbl] at hC hkR
    generalize numI ll.length ws = ns at I0 hkR q Z hnl hni
    have hC2 : RowsAt H2 cl cs (ll ++ unitsR b.length) := hC.same s2
    have hB2 : IntsAt H2 bd b := hB.same s12
    let Wv : Nat → L2.St → Hp → Prop := fun m σ H' => ∃ (en : List En) (us : List V) (ss : List (List Int)) (y7 y8 y9 y10 y11 : Option V), σ = [some (.ref p), some (.ref v), some (.ref bd), some (.ref cl), some (.ref kz), some (.ref d), some (.ref a), y7, y8, y9, y10, y11] ∧ WD H' [a] d en ∧ NE en ∧ H' a = some (.lst us) ∧ StepsIn C (cutM (mt d en [a]) H') us ss ∧ Same H2 (cutM (mt d en [a]) H') ∧ PInv ll b ns ss (fun q => q ∈ tot en) ∧ (KO (kyD ll b.length) en ∧ SZ ll b D ss) ∧ (tot en).length ≤ ll.length + tri ss.length ∧ m = (tot en).length + (tri 5006 - tri ss.length)
    refine ⟨Wv, ⟨_, en, [], [], none, none, none, none, none, rfl, W4, N3, ha4, ⟨rfl, fun i v s h => by simp at h⟩, c24, I0, ⟨o3, fun s hs => by cases hs⟩, by omega, rfl⟩, ?_⟩
    rintro m σ H5 ⟨en, us, ss, y7, y8, y9, y10, y11, rfl, W5, N5, ha5, hS5, c5, I5, ⟨o5, z5⟩, l5, rfl⟩
    refine ⟨.ref d, rfl, _, .inr (.inr ⟨_, W5.dict, rfl⟩), ?_⟩
    by_cases hen : en = []
    · -- nothing waits
      subst hen
      refine iteF ⟨.ref a, rfl, ?_⟩
      exact q H5 a us ss (s12.trans (c5.trans cut_le)) ha5 (hS5.same cut_le) I5.st (I5.full fun q hq => by cases hq) I5.nd (fun s hs => ⟨I5.ab s hs, (z5 s hs).1⟩) (by
        exact few_rows Fw I5.nd I5.st (fun s hs => ⟨I5.ab s hs, (z5 s hs).1⟩) fun s hs => (z5 s hs).2)
    · have hne : (!(kvE en).isEmpty) = true := by
        unfold kvE
        cases en with
        | nil => exact absurd rfl hen
        | cons e en => rfl
      refine (if_pos hne).mpr ?_
      have hkeys : (kvE en).map (·.1) = (en.map (·.1)).map Sum.inl := by
        unfold kvE
        rw [List.map_map, List.map_map]
        rfl
      have hnk : en.map (·.1) ≠ [] := fun z => hen (List.map_eq_nil_iff.mp z)
      refine ⟨fun σ' H' => ∃ m', m' < (tot en).length + (tri 5006 - tri ss.length) ∧ Wv m' σ' H', fun σ' H' h => h, ?_⟩
      refine ⟨.ref d, rfl, d, rfl, .inl ⟨_, .inl W5.dict⟩, .ref d, rfl, d, kvE en, en.map (·.1), rfl, W5.dict, hkeys, hnk, fun kmin hkm hmin => ?_⟩
      obtain ⟨e, en1, vs, ev, mv1, hvs, nin, htr, hne2, N1, lt1, mt1, hen1, hek1, hsub1⟩ := pop_key W5 N5 hkm
      refine ⟨kvE en, Sum.inl kmin, .ref e.2.1, W5.dict, rfl, ev, ?_⟩
      have W6 := mv1.wd
      have c6 := mv1.cut
      have ha6 : (upd H5 d (.dK (dropK (kvE en) (Sum.inl kmin)))) a = some (.lst us) := by rw [mv1.oth a (List.mem_singleton.mpr rfl)]; exact ha5
      generalize upd H5 d (.dK (dropK (kvE en) (Sum.inl kmin))) = H6 at W6 c6 ha6 hvs htr ⊢
      have hvl : cutM (mt d en1 [a]) H6 e.2.1 = some (.lst vs) := cut_of nin hvs
      have I6 : PInv ll b ns ss (fun q => q ∈ tot en1 ∨ q ∈ e.2.2.drop 0) := by
        have e0 : (fun q => q ∈ tot en1 ∨ q ∈ e.2.2.drop 0) = (fun q => q ∈ tot en) := by
          funext q
          rw [List.drop_zero]
          exact propext (mt1 q).symm
        rw [e0]
        exact I5
      have o6 : KO (kyD ll b.length) en1 := fun x hx => o5 x (hsub1 x hx)
      have d6 : ∀ q, (q ∈ tot en1 ∨ q ∈ e.2.2.drop 0) → e.1 ≤ kyD ll b.length q := fun q hq => by
        rw [List.drop_zero] at hq
        rcases hq with h | h
        · obtain ⟨x, hx, hq⟩ := List.mem_flatMap.mp h
          rw [o6 x hx q hq, hek1]
          exact hmin _ (List.mem_map_of_mem (hsub1 x hx))
        · rw [o5 e hen1 q h]
          exact Int.le_refl _
      have pos2 : 0 < e.2.2.length := List.length_pos_iff.mpr hne2
      have c26 : Same H2 (cutM (mt d en1 [a]) H6) := c5.trans c6
      -- each pair
      let Pw : Nat → L2.St → Hp → Prop := fun j σ H' => ∃ (en' : List En) (us' : List V) (ss' : List (List Int)) (y8 y9 y10 y11 : Option V), σ = [some (.ref p), some (.ref v), some (.ref bd), some (.ref cl), some (.ref kz), some (.ref d), some (.ref a), some (.ref e.2.1), y8, y9, y10, y11] ∧ WD H' [a] d en' ∧ NE en' ∧ H' a = some (.lst us') ∧ StepsIn C (cutM (mt d en' [a]) H') us' ss' ∧ Same (cutM (mt d en1 [a]) H6) (cutM (mt d en' [a]) H') ∧ PInv ll b ns ss' (fun q => q ∈ tot en' ∨ q ∈ e.2.2.drop j) ∧ (KO (kyD ll b.length) en' ∧ SZ ll b D ss' ∧ ∀ q, (q ∈ tot en' ∨ q ∈ e.2.2.drop j) → e.1 ≤ kyD ll b.length q) ∧ (tot en').length ≤ ll.length + tri ss'.length ∧ (tot en').length + (tri 5006 - tri ss'.length) ≤ (tot en1).length + (tri 5006 - tri ss.length)
      refine ⟨.ref e.2.1, rfl, e.2.1, rfl, ⟨_, SqL.of hvs⟩, for_list (K := K) (a := e.2.1) (xs := vs) Pw ⟨en1, us, ss, y8, y9, y10, y11, rfl, W6, N1, ha6, hS5.same c6, Same.refl _, I6, ⟨o6, z5, d6⟩, by omega, Nat.le_refl _⟩ (fun j σ H' _ ⟨_, _, _, _, _, _, _, _, _, _, _, _, c, _⟩ => SqL.of (cut_le _ _ (c _ _ hvl))) ?_ ?_⟩
      · rintro j x σ H7 hx ⟨en7, us7, ss7, y8, y9, y10, y11, rfl, W7, N7, ha7, hS7, c7, I7, ⟨o7, z7, d7⟩, l7, m7⟩
        obtain ⟨t, ht1, tt, xa, oa, ta, rfl, htt, hxa, hoa, hta⟩ := (htr.same c7).at hx
        have hjl : j < e.2.2.length := (List.getElem?_eq_some_iff.mp ht1).1
        have hdrop : e.2.2.drop j = t :: e.2.2.drop (j + 1) := by
          rw [List.drop_eq_getElem_cons hjl]
          congr 1
          rw [List.getElem?_eq_getElem hjl] at ht1
          exact Option.some.inj ht1
        have O := I7.good t (.inr (by rw [hdrop]; exact List.mem_cons_self))
        have c27 : Same H2 (cutM (mt d en7 [a]) H7) := c26.trans c7
        have few7 : ss7.length ≤ 5005 := by
          exact few_rows Fw I7.nd I7.st (fun s hs => ⟨I7.ab s hs, (z7 s hs).1⟩) fun s hs => (z7 s hs).2
        have hlen7 : ∀ s ∈ ss7, s.length = t.1.length := fun s hs => (I7.st s hs).len.trans O.x.len.symm
        have hd1 : ∀ q, (q ∈ tot en7 ∨ q ∈ e.2.2.drop j) → q = t ∨ (q ∈ tot en7 ∨ q ∈ e.2.2.drop (j + 1)) := fun q hq => by
          rw [hdrop] at hq
          rcases hq with h | h
          · exact .inr (.inl h)
          · rcases List.mem_cons.mp h with h | h
            · exact .inl h
            · exact .inr (.inr h)
        have hd2 : ∀ q, (q ∈ tot en7 ∨ q ∈ e.2.2.drop (j + 1)) → (q ∈ tot en7 ∨ q ∈ e.2.2.drop j) := fun q hq => by
          rw [hdrop]
          exact hq.elim .inl fun h => .inr (List.mem_cons_of_mem _ h)
        have finish : ∀ (H' : Hp) (y8 y9 y10 y11 : Option V), Same H7 H' → BL.Hd (inS ss7) (vec t.1) (vec t.2.1) (vec t.2.2) → Pw (j + 1) [some (.ref p), some (.ref v), some (.ref bd), some (.ref cl), some (.ref kz), some (.ref d), some (.ref a), some (.ref e.2.1), y8, y9, y10, y11] H' := fun H' y8 y9 y10 y11 s' hd =>
          ⟨en7, us7, ss7, y8, y9, y10, y11, rfl, W7.same s', N7, s' _ _ ha7, hS7.same (cut_same s'), c7.trans (cut_same s'), I7.less Z hbl.symm hd1 hd2 hd, ⟨o7, z7, fun q hq => d7 q (hd2 q hq)⟩, l7, m7⟩
        refine ⟨tt, _, rfl, SqT.of (cut_le _ _ htt), rfl, _, _, rfl, _, _, rfl, _, _, rfl, rfl, ?_⟩
        have hx7 : IntsAt H7 xa t.1 := hxa.same cut_le
        have ho7 : IntsAt H7 oa t.2.1 := hoa.same cut_le
        have ht7 : IntsAt H7 ta t.2.2 := hta.same cut_le
        have tl := O.x.len
        refine ⟨.ref xa, rfl, .ref oa, rfl, .ref ta, rfl, .ref a, rfl, xa, oa, ta, a, t.1, t.2.1, t.2.2, us7, ss7, rfl, hx7, ho7, ht7, O.l1.trans tl.symm, O.l2.trans tl.symm, by omega, ha7, hS7.same cut_le, hlen7, fun H8 s8 => ⟨_, rfl, ite2 (fun c => ?_) (fun c => ?_)⟩⟩
        · -- not spanned
          have hx8 := hx7.same s8
          have ho8 := ho7.same s8
          have ht8 := ht7.same s8
          have hS8 : StepsIn C H8 us7 ss7 := (hS7.same cut_le).same s8
          refine ⟨.ref xa, rfl, .ref oa, rfl, xa, oa, t.1, t.2.1, 1, rfl, hx8, ho8, tl.trans O.l1.symm, by omega, .inl (by decide), fun H9 p9 s9 h9 => ?_⟩
          refine ⟨.ref a, rfl, p9, a, _, us7, ss7, ll, b, ns, rfl, h9, s9 _ _ (s8 _ _ ha7), hS8.same s9, Z, O.r1, I7.st, n8, fun H10 z10 u s10 h10 Ru rtu iu => ?_⟩
          have s810 := s9.trans s10
          refine ⟨.ref xa, rfl, .ref ta, rfl, xa, ta, t.1, t.2.2, 1, rfl, hx8.same s810, ht8.same s810, tl.trans O.l2.symm, by omega, .inl (by decide), fun H11 p11 s11 h11 => ?_⟩
          refine ⟨.ref a, rfl, p11, a, _, us7, ss7, ll, b, ns, rfl, h11, s11 _ _ (s810 _ _ (s8 _ _ ha7)), (hS8.same s810).same s11, Z, O.r2, I7.st, n8, fun H12 z12 v' s12' h12 Rv rtv iv => ?_⟩
          have s1012 := s11.trans s12'
          have luv : u.length = v'.length := Ru.len.trans Rv.len.symm
          refine ⟨z10, z12, u, v', 1, rfl, h10.same s1012, h12, luv, by have := Ru.len; omega, .inl (by decide), fun H13 pc s13 hpc => ?_⟩
          have lch : (subR u v' 1).length = ll.length + b.length := by rw [subR_len luv]; exact Ru.len
          refine ⟨.ref pc, rfl, pc, _, rfl, hpc, by omega, fun H14 s14 => ⟨_, rfl, ite2 (fun c2 => ?_) (fun c2 => ?_)⟩⟩
          · -- a new step
            have hz : ¬ zeroB (subR u v' 1) = true := fun z => by rw [z] at c2; cases c2
            obtain ⟨i0, hi0, hnz⟩ : ∃ i, i < ll.length + b.length ∧ vec (subR u v' 1) i ≠ 0 := by
              by_cases z : ∃ i, i < ll.length + b.length ∧ vec (subR u v' 1) i ≠ 0
              · exact z
              · exfalso
                refine hz (zeroB_iff.mpr fun n hn => ?_)
                obtain ⟨i, hi, e⟩ := List.mem_iff_getElem.mp hn
                by_cases y : n = 0
                · exact y
                · exact absurd ⟨i, by omega, by rw [vec_at (by rw [List.getElem?_eq_getElem hi, e])]; exact y⟩ z
            obtain ⟨tt0, rest, et⟩ := nz_some (w := vec ns) hi0 hnz
            have es := sums_rk (k := ll.length) (g := b.length) (ns := ns) (s := subR u v' 1) hnl lch
            have s714 : Same H7 H14 := s8.trans (s810.trans (s1012.trans (s13.trans s14)))
            have W14 := W7.same s714
            have c214 : Same H2 H14 := c27.trans (cut_le.trans s714)
            refine ⟨.ref pc, rfl, .ref kz, rfl, pc, kz, subR u v' 1, kzs, costL ll.length b.length ns, rfl, hpc.same s14, c214 _ _ hk, hkR.same c214, fun r hr => ?_, by omega, by rw [cost_len]; omega, tt0, rest, by rw [es]; exact et, fun H15 pw s15 hw => ?_⟩
            · have := cost_rows hnl hni r hr
              exact ⟨this.1.trans lch.symm, this.2⟩
            intro xo dxo nxo ndxo nexo
            have s16 : Same H15 (upd (upd H15 dxo (.own xo)) xo (.ins C dxo [])) := fun b' o' e' => by
              rw [upd_ne (ne_of_none e' nxo), upd_ne (ne_of_none e' ndxo)]
              exact e'
            -- the step's facts
            have A0 := BL.ax (b := vec b) (mu := muv ll b.length (vec ns)) Z.lot
            have hSs : ∀ s, inS ss7 s → BL.St (ll.length + b.length) (BL.Bv ll b.length) (BL.Okv ll b.length (vec b)) (muv ll b.length (vec ns)) s := fun s ⟨s', hs', e⟩ => by rw [e]; exact (I7.st s' hs').st
            have eb : BL.Bv ll b.length (vec u) = BL.Bv ll b.length (vec v') := ((BL.rt_keeps A0 hSs rtu O.r1.ld).2.trans O.eb).trans (BL.rt_keeps A0 hSs rtv O.r2.ld).2.symm
            have hkt : BL.dgv ll b.length (vec t.1) = e.1 := o5 e hen1 t (List.mem_of_getElem? ht1)
            have hut : BL.dgv ll b.length (vec u) = e.1 := by
              rw [← hkt]
              unfold BL.dgv
              rw [(BL.rt_keeps A0 hSs rtu O.r1.ld).2, O.ek]
            have hvt : BL.dgv ll b.length (vec v') = e.1 := by
              rw [← hut]
              unfold BL.dgv
              rw [eb]
            have huv : vec u ≠ vec v' := fun z => hnz (by
              rw [BL.vec_sub1 luv, z]
              show vec v' i0 - vec v' i0 = 0
              omega)
            obtain ⟨ls, hst, hab, hna, hjn, hdg, hsz⟩ : (if 0 < tt0 then subR u v' 1 else ngR (subR u v' 1)).length = ll.length + b.length ∧ StR ll b ns (if 0 < tt0 then subR u v' 1 else ngR (subR u v' 1)) ∧ RowOk ll b (abv (if 0 < tt0 then subR u v' 1 else ngR (subR u v' 1))) ∧ abv (if 0 < tt0 then subR u v' 1 else ngR (subR u v' 1)) ∉ ss7.map abv ∧ BL.Hd (inS (ss7 ++ [if 0 < tt0 then subR u v' 1 else ngR (subR u v' 1)])) (vec t.1) (vec t.2.1) (vec t.2.2) ∧ BL.dgv ll b.length (vec (abv (if 0 < tt0 then subR u v' 1 else ngR (subR u v' 1)))) = e.1 ∧ (BL.sm (ll.length + b.length) (vec (abv (if 0 < tt0 then subR u v' 1 else ngR (subR u v' 1)))) ≤ D ∧ (Opt ll b → ∀ i, i < ll.length → -9 ≤ vec (if 0 < tt0 then subR u v' 1 else ngR (subR u v' 1)) i ∧ vec (if 0 < tt0 then subR u v' 1 else ngR (subR u v' 1)) i ≤ 9)) := by
              by_cases pt : 0 < tt0
              · rw [if_pos pt]
                obtain ⟨q1, q2, q3, q4, q5, q6, q7⟩ := new_step (d := e.1) Z hbl.symm Fw I7 d7 (by omega) iv huv Ru Rv eb iu lch (BL.vec_sub1 luv) ((fp_nz et).1 pt)
                exact ⟨lch, q1, q2, q3, step_hd O rtu rtv (.inl ⟨q4, q5⟩), by rw [q6]; exact hut, ⟨by rw [q6]; exact q7.1, q7.2⟩⟩
              · rw [if_neg pt]
                have lng : (ngR (subR u v' 1)).length = ll.length + b.length := by
                  unfold BL.ngR
                  rw [List.length_map]
                  exact lch
                have vng : vec (ngR (subR u v' 1)) = BL.sb (vec v') (vec u) := by
                  rw [BL.vec_ng, BL.vec_sub1 luv]
                  funext i
                  show -(vec u i - vec v' i) = vec v' i - vec u i
                  omega
                obtain ⟨q1, q2, q3, q4, q5, q6, q7⟩ := new_step (d := e.1) Z hbl.symm Fw I7 d7 (by omega) iu (fun z => huv z.symm) Rv Ru eb.symm iv lng vng (by rw [BL.vec_ng, rkv_neg]; exact (fp_nz et).2 pt)
                exact ⟨lng, q1, q2, q3, step_hd O rtu rtv (.inr ⟨q4, q5⟩), by rw [q6]; exact hvt, ⟨by rw [q6]; exact q7.1, q7.2⟩⟩
            generalize (if 0 < tt0 then subR u v' 1 else ngR (subR u v' 1)) = sN at hw ls hst hab hna hjn hdg hsz
            refine ⟨xo, dxo, pw, sN, rfl, upd_same, hw.same s16, by rw [ls]; exact n8, fun H17 l17 as17 kp17 hp17 hl17 hR17 hn17 => ⟨rfl, ?_⟩⟩
            have s1517 : Same H15 H17 := fun b' o' e' => kp17 b' o' (s16 _ _ e') (ne_of_none e' nxo)
            have s717 : Same H7 H17 := s714.trans (s15.trans s1517)
            have W15 := W14.same s15
            have W17 := W7.same s717
            have nl17 : l17 ∉ mt d en7 [a] := by
              cases hh : H15 l17 with
              | none => exact W15.fresh hh
              | some o => rw [s16 _ _ hh] at hn17; cases hn17
            have cs17 := cut_same (M := mt d en7 [a]) s717
            have hv17 : StepIn C (cutM (mt d en7 [a]) H17) (.ref xo) sN := ⟨xo, dxo, pw, l17, as17, rfl, cut_of (W17.tup hp17 (fun _ z => by cases z) (fun _ z => by cases z)) hp17, W17.ints (hw.same s1517), cut_of nl17 hl17, W17.rows hR17⟩
            have hS17 := hS7.same cs17
            have htri := tri_few few7
            have hcols : ∀ r ∈ ll ++ unitsR b.length, r.length = b.length ∧ ∀ n ∈ r, 0 ≤ n ∧ n ≤ 6 := fun r hr => by
              rcases List.mem_append.mp hr with h | h
              · have := hrows r h
                exact ⟨this.1.trans hbl.symm, this.2⟩
              · unfold unitsR at h
                obtain ⟨k, hk', rfl⟩ := List.mem_map.mp h
                refine ⟨unI_len (List.mem_range.mp hk'), fun z hz' => ?_⟩
                unfold unI zeros at hz'
                rcases List.mem_append.mp hz' with h | h
                · rcases List.mem_append.mp h with h | h
                  · rw [List.eq_of_mem_replicate h]; decide
                  · rw [List.mem_singleton.mp h]; decide
                · rw [List.eq_of_mem_replicate h]; decide
            refine ⟨.ref a, rfl, .ref d, rfl, .ref cl, rfl, .ref bd, rfl, .ref xo, a, d, cl, bd, us7, ss7, en7, sN, cs, ll ++ unitsR b.length, b, rfl, W17, N7, s717 _ _ ha7, hS17, hv17, (hC2.same c27).same cs17, (hB2.same c27).same cs17, ?_, by rw [ls]; exact n8, fun t' ht' => (I7.st t' ht').len.trans ls.symm, hcols, by omega, Nat.lt_of_le_of_lt (show _ ≤ 12540000 by omega) (by decide), fun H18 en18 W18 N18 ha18 c18 l18 m18 o18 => ?_⟩
            · rw [ls, List.length_append]
              unfold unitsR
              rw [List.length_map, List.length_range]
            have IM := I7.more Z hbl.symm hst hab hna hd1 hd2 hjn
            have e0 : (fun x => (x ∈ tot en7 ∨ x ∈ e.2.2.drop (j + 1)) ∨ x ∈ newN (ll ++ unitsR b.length) b sN ss7 ss7.length) = (fun x => x ∈ tot en18 ∨ x ∈ e.2.2.drop (j + 1)) := by
              funext x
              refine propext ?_
              rw [m18 x]
              constructor
              · rintro ((h | h) | h)
                · exact .inl (.inl h)
                · exact .inr h
                · exact .inl (.inr h)
              · rintro ((h | h) | h)
                · exact .inl (.inl h)
                · exact .inr h
                · exact .inl (.inr h)
            rw [e0] at IM
            have elen : (ss7 ++ [sN]).length = ss7.length + 1 := by rw [List.length_append]; rfl
            have etri : tri (ss7.length + 1) = tri ss7.length + ss7.length := rfl
            have ltri : tri (ss7.length + 1) ≤ tri 5006 := tri_le (by omega)
            refine ⟨en18, us7 ++ [.ref xo], ss7 ++ [sN], _, _, _, _, rfl, W18, N18, ha18, (hS17.same c18).more (hv17.same c18), c7.trans (cs17.trans c18), IM, ⟨o18 _ o7 fun t' ht' => ky_pair ls, fun x hx => ?_, fun q hq => ?_⟩, ?_, ?_⟩
            · rcases List.mem_append.mp hx with h | h
              · exact z7 x h
              · rw [List.mem_singleton.mp h]
                exact hsz
            · rcases hq with h | h
              · rcases (m18 q).mp h with h | h
                · exact d7 q (hd2 q (.inl h))
                · obtain ⟨t', ht', rfl⟩ := new_of h
                  have := new_low Z hst (I7.st t' ht') hab
                  omega
              · exact d7 q (hd2 q (.inr h))
            · rw [elen, etri]
              omega
            · rw [elen]
              omega
          · -- nought
            have hz : zeroB (subR u v' 1) = true := by
              cases z : zeroB (subR u v' 1) with
              | true => rfl
              | false => rw [z] at c2; exact absurd rfl c2
            have euv : vec u = vec v' := by
              have h0 : vec (subR u v' 1) = fun _ => 0 := by
                funext i
                unfold BL.vec
                rw [List.getD_eq_getElem?_getD]
                cases z : (subR u v' 1)[i]? with
                | none => rfl
                | some y => exact zeroB_iff.mp hz y (List.mem_of_getElem? z)
              rw [BL.vec_sub1 luv] at h0
              funext i
              have := congrFun h0 i
              have h1 : vec u i - vec v' i = 0 := this
              omega
            exact finish H14 _ _ _ _ (s8.trans (s810.trans (s1012.trans (s13.trans s14)))) (nought_hd O rtu rtv euv)
        · -- spanned
          have hsp : spanB t.1 t.2.1 t.2.2 ss7 = true := by
            cases z : spanB t.1 t.2.1 t.2.2 ss7 with
            | true => rfl
            | false => rw [z] at c; exact absurd rfl c
          refine finish H8 _ _ _ _ s8 ?_
          obtain ⟨r, hr, hr2⟩ := List.any_eq_true.mp hsp
          rw [Bool.and_eq_true, Bool.and_eq_true] at hr2
          exact .inr ⟨vec r, ⟨r, hr, rfl⟩, (fit_iff O.x (I7.st r hr).len).mp hr2.1, lv_of hr2.2.1, lv_of hr2.2.2⟩
      · rintro σ H7 ⟨en7, us7, ss7, y8, y9, y10, y11, rfl, W7, N7, ha7, hS7, c7, I7, ⟨o7, z7, d7⟩, l7, m7⟩
        refine ⟨_, ?_, en7, us7, ss7, _, y8, y9, y10, y11, rfl, W7, N7, ha7, hS7, c26.trans c7, ?_, ⟨o7, z7⟩, l7, rfl⟩
        · omega
        · have e0 : (fun q => q ∈ tot en7 ∨ q ∈ e.2.2.drop vs.length) = (fun q => q ∈ tot en7) := by
            funext q
            refine propext ⟨fun h => h.elim id fun h => ?_, .inl⟩
            rw [htr.1, List.drop_length] at h
            cases h
          rw [e0] at I7
          exact I7
end
end HL

set_option pp.maxSteps 3000
namespace HL
open PySem PySem.Spec PyProof.Rows L2
open C8 (pss_cut)
open RZ (pi_zipA ItzT iZipA)
open BL (abv ngR askL askLi fitB vec RowOk StR inS St1 muv fit_iff step_pos row_step)
theorem scAs : FnScope ["row", "kinds"] ["row", "kinds"] (defScope sAsLoad) := ⟨rfl, rfl, rfl, by decide +kernel, rfl, by decide +kernel, by decide +kernel⟩
section
variable {P : Program} {w : World} {K : PySem.W.Frag} {mg : Str → Option Value} {base : Heap}
/-! ### a bill, bit by bit -/
def frR (k : Nat) (b : List Int) (s : Nat) : List Int := zeros k ++ b.map fun z => z / 2 ^ s % 2
def dblR (r f : List Int) : List Int := (r.zip f).map fun q => 2 * q.1 + q.2
theorem dblR_len {r f : List Int} (e : r.length = f.length) : (dblR r f).length = r.length := by
  unfold dblR
  rw [List.length_map, List.length_zip]
  omega
theorem vec_dbl {r f : List Int} (e : r.length = f.length) : vec (dblR r f) = BL.ad (BL.ad (vec r) (vec r)) (vec f) := by
  funext i
  show _ = vec r i + vec r i + vec f i
  by_cases h : i < r.length
  · have hx : r[i]? = some (r.getD i 0) := getD_at h
    have hy : f[i]? = some (f.getD i 0) := getD_at (by omega)
    have : (dblR r f)[i]? = some (2 * r.getD i 0 + f.getD i 0) := by
      unfold dblR
      rw [List.getElem?_map, zipI_at hx hy]
      rfl
    rw [vec_at this]
    show 2 * vec r i + vec f i = vec r i + vec r i + vec f i
    omega
  · rw [BL.vec_out (by rw [dblR_len e]; omega), BL.vec_out (r := r) (by omega), BL.vec_out (r := f) (by omega)]
    rfl
theorem vec_fr {k : Nat} {b : List Int} {s i : Nat} : vec (frR k b s) i = if i < k then 0 else vec b (i - k) / 2 ^ s % 2 := by
  unfold frR
  rw [vec_app, zeros_len, vec_zeros]
  by_cases c : i < k
  · rw [if_pos c, if_pos c]
  · rw [if_neg c, if_neg c]
    unfold BL.vec
    rw [List.getD_eq_getElem?_getD, List.getD_eq_getElem?_getD, List.getElem?_map]
    cases b[i - k]? with
    | none => simp
    | some z => rfl
theorem half_bit (z : Int) (s : Nat) : z / 2 ^ (s + 1) + z / 2 ^ (s + 1) + z / 2 ^ s % 2 = z / 2 ^ s := by
  have e : z / 2 ^ (s + 1) = z / 2 ^ s / 2 := by
    rw [Int.pow_succ]
    have hp : (0 : Int) < 2 ^ s := Int.pow_pos (by decide)
    rw [Int.ediv_ediv, if_neg (fun h => absurd h.1 (by omega)), Int.sub_zero]
  rw [e]
  omega
structure AtBit (ll : List (List Int)) (b : List Int) (s : Nat) (r : List Int) : Prop where
  len : r.length = ll.length + b.length
  ld : BL.Ld (ll.length + b.length) (vec r)
  bill : BL.Bv ll b.length (vec r) = fun j => vec b j / 2 ^ s
theorem AtBit.row {ll : List (List Int)} {b ns : List Int} (Z : St1 ll b ns) {s : Nat} {r : List Int} (h : AtBit ll b s r) : RowOk ll b r := ⟨h.len, h.ld, fun j => by
  rw [h.bill]
  exact Int.ediv_le_self _ (Z.nn j)⟩
theorem frR_len {k : Nat} {b : List Int} {s : Nat} : (frR k b s).length = k + b.length := by
  unfold frR
  rw [List.length_append, zeros_len, List.length_map]
theorem AtBit.next {ll : List (List Int)} {b ns : List Int} (Z : St1 ll b ns) {s : Nat} {r : List Int} (h : AtBit ll b (s + 1) r) : AtBit ll b s (dblR r (frR ll.length b s)) := by
  have el : r.length = (frR ll.length b s).length := by rw [frR_len]; exact h.len
  have f0 : ∀ i, 0 ≤ vec (frR ll.length b s) i := fun i => by
    rw [vec_fr]
    split
    · exact Int.le_refl _
    · omega
  have fb : BL.Bv ll b.length (vec (frR ll.length b s)) = fun j => vec b j / 2 ^ s % 2 := by
    funext j
    unfold BL.Bv
    by_cases c : j < b.length
    · rw [if_pos c, BL.Lb_zero fun i hi => by rw [vec_fr, if_pos hi], vec_fr, if_neg (by omega), Nat.add_sub_cancel_left]
      omega
    · rw [if_neg c, BL.vec_out (r := b) (by omega)]
      simp
  refine ⟨by rw [dblR_len el]; exact h.len, ?_, ?_⟩
  · rw [vec_dbl el]
    refine ⟨fun i => ?_, fun i hi => ?_⟩
    · have := h.ld.1 i
      have := f0 i
      show 0 ≤ vec r i + vec r i + vec (frR ll.length b s) i
      omega
    · show vec r i + vec r i + vec (frR ll.length b s) i = 0
      rw [h.ld.2 i hi, BL.vec_out (by rw [frR_len]; exact hi)]
      rfl
  · rw [vec_dbl el, BL.Bv_add, BL.Bv_add, h.bill, fb]
    funext j
    exact half_bit (vec b j) s
structure IsBest (ll : List (List Int)) (b ns x : List Int) : Prop where
  len : x.length = ll.length + b.length
  ld : BL.Ld (ll.length + b.length) (vec x)
  bill : BL.Bv ll b.length (vec x) = vec b
  best : ∀ y, BL.Ld (ll.length + b.length) y → BL.Bv ll b.length y = vec b → ¬ lx (BL.rkv ll.length b.length (vec ns) y) (BL.rkv ll.length b.length (vec ns) (vec x))
theorem zero_one {ll : List (List Int)} {b ns : List Int} (Z : St1 ll b ns) {y : BL.Vec} (hy : BL.Ld (ll.length + b.length) y) (h : BL.Bv ll b.length y = fun _ => 0) : y = fun _ => 0 := by
  funext i
  by_cases c : i < ll.length + b.length
  · have h1 := BL.sm_dg (g := b.length) Z.lot hy.1
    have h2 := BL.sm_one (g := ll.length + b.length) (x := y) (i := i) (fun i _ => hy.1 i) c
    have h3 : BL.dgv ll b.length y = 0 := by
      unfold BL.dgv
      rw [h]
      exact BL.sm_zero
    have h4 := hy.1 i
    show y i = 0
    omega
  · exact hy.2 i (by omega)
theorem best_row {ll : List (List Int)} {b ns : List Int} (Z : St1 ll b ns) {ss : List (List Int)} (hS : ∀ s ∈ ss, StR ll b ns s) (Fu : BL.Full (ll.length + b.length) ll.length (BL.Okv ll b.length (vec b)) (BL.holdv ll) (inS ss)) {x : List Int} (h : AtBit ll b 0 x) (irr : (∀ s ∈ ss, ¬ BL.Fit (vec s) (vec x)) ∨ vec x = fun _ => 0) : IsBest ll b ns x := by
  have hb : BL.Bv ll b.length (vec x) = vec b := by
    rw [h.bill]
    funext j
    show vec b j / 2 ^ 0 = vec b j
    rw [Int.pow_zero, Int.ediv_one]
  have hR := h.row Z
  refine ⟨h.len, h.ld, hb, fun y hy ey => ?_⟩
  have oy : BL.Okv ll b.length (vec b) y := fun j => by rw [ey]; exact Int.le_refl _
  refine BL.rk_of_mu Z h.ld hR.ok hy oy ?_
  rcases irr with irr | z
  · exact BL.best_of (BL.ax Z.lot) (fun s ⟨s', hs', e⟩ => by rw [e]; exact (hS s' hs').st) (BL.hm Z.lot) Fu h.ld hR.ok (fun s ⟨s', hs', e⟩ => by rw [e]; exact irr s' hs') hy (ey.trans hb.symm)
  · have e0 : BL.Bv ll b.length (fun _ => 0) = fun _ => 0 := by
      have := BL.Bv_sub (ll := ll) (g := b.length) (vec x) (vec x)
      have e1 : BL.sb (vec x) (vec x) = fun _ => 0 := by
        funext i
        show vec x i - vec x i = 0
        omega
      rw [e1] at this
      rw [this]
      funext j
      show BL.Bv ll b.length (vec x) j - BL.Bv ll b.length (vec x) j = 0
      omega
    have : y = vec x := by
      rw [z]
      refine zero_one Z hy ?_
      rw [ey, ← hb, z, e0]
    rw [this]
    exact Nat.le_refl _
theorem slice_toI {H : Hp} {a : Addr} {xs : List Int} {n : Nat} {Q : VK} (ha : IntsAt H a xs) (q : ∀ p H', Same H H' → IntsAt H' p (xs.take n) → Q (.ref p) H') : rSlA K (.ref a) none (some (n : Int)) H Q :=
  slice_read ha fun p H' s h => q p H' s (by unfold IntsAt; rw [cut_to, ← List.map_take] at h; exact h)
def spAsLoad (K : PySem.W.Frag) : Sp := fun vs H Q _ => ∃ (r : Addr) (k : Nat) (x : List Int), vs = [.ref r, .int (k : Int)] ∧ IntsAt H r x ∧ ∀ H' z, Same H H' → LdAt H' z (x.take k, x.drop k) → Q (.ref z) H'
theorem ok_asLoad {f : Addr} {fd : FuncData} {k : Nat} (F : Fun K "as_load" "as_load" sAsLoad f fd) : FnOk P w K mg base CX0 (k + 1) f fd ["row", "kinds"] (spAsLoad K) := by
  refine F.ok scAs (fun vs H Q E h => ?_) (fun cdv A outer s H vs Q E hr h => ?_)
  · obtain ⟨r, k, x, rfl, _⟩ := h
    rfl
  · obtain ⟨r, k, x, rfl, hr1, q⟩ := h
    refine ⟨_, (pss_one (ps_ret (pe_tup (pa_cons (pe_slice sl_tupA (pv 0) po_none (po_some (pv 1))) (pa_cons (pe_slice sl_tupA (pv 0) (po_some (pv 1)) po_none) pa_nil))))), ?_⟩
    refine ⟨.ref r, rfl, noPart ⟨.int (k : Int), rfl, _, rfl, slice_toI hr1 fun p1 H1 s1 h1 => ?_⟩⟩
    refine ⟨.ref r, rfl, .int (k : Int), rfl, _, rfl, noPart (slice_fromI (hr1.same s1) fun p2 H2 s2 h2 => ?_)⟩
    refine ⟨sz_2 _ _, fun t nt => ?_⟩
    have st := same_new (o := .tup [V.ref p1, .ref p2]) nt
    exact q _ t (s1.trans (s2.trans st)) ⟨p1, p2, upd_same, (h1.same s2).same st, h2.same st⟩
end
end HL

set_option pp.maxSteps 3000
namespace HL
open PySem PySem.Spec PyProof.Rows L2
open C8 (pss_cut)
open RZ (pi_zipA ItzT iZipA)
open BL (abv ngR askL askLi fitB vec RowOk StR inS St1 muv fit_iff step_pos row_step)
theorem scBl : FnScope ["lot", "bill", "wish", "steps", "row", "shift", "fresh", "amount", "more", "number"] ["lot", "bill", "wish"] (defScope sBestLoad) := ⟨rfl, rfl, rfl, by decide +kernel, rfl, by decide +kernel, by decide +kernel⟩
section
variable {P : Program} {w : World} {K : PySem.W.Frag} {mg : Str → Option Value} {base : Heap}
def spBestLoad (K : PySem.W.Frag) (C CB CW : Addr) : Sp := fun vs H Q E => ∃ (p bl v : Addr) (as : List Addr) (ll : List (List Int)) (b ws : List Int), vs = [.ref p, .ref bl, .ref v] ∧ LotB H p as ll ∧ IntsAt H bl b ∧ b.length ≤ 100 ∧ IT K H v ws ∧ ws.length ≤ 100 ∧
  (∀ k, flaw ll = some k → RefW C "bad lot" H E) ∧ (flaw ll = none → wrong (width ll) b ≠ none → RefW CB "bad bill" H E) ∧ (flaw ll = none → wrong (width ll) b = none → okWish ll.length ws = false → RefW CW "bad wish" H E) ∧
  (flaw ll = none → wrong (width ll) b = none → okWish ll.length ws = true → St1 ll b (numI ll.length ws) ∧ (∃ D, Few ll b D) ∧ ∀ H' z x, Same H H' → IsBest ll b (numI ll.length ws) x → LdAt H' z (x.take ll.length, x.drop ll.length) → Q (.ref z) H')
theorem bits_lt {m z : Int} (h0 : 0 ≤ z) (h : z ≤ m) : z / 2 ^ (Builtin.Int.intBits m) = 0 := by
  have h1 : m.natAbs < 2 ^ (Builtin.Int.intBits m) := intBits_le_iff.mp (Nat.le_refl _)
  refine Int.ediv_eq_zero_of_lt h0 ?_
  have h2 : (m.natAbs : Int) < ((2 ^ (Builtin.Int.intBits m) : Nat) : Int) := by omega
  rw [Int.natCast_pow] at h2
  have : z ≤ (m.natAbs : Int) := by omega
  exact Int.lt_of_le_of_lt this h2
theorem ok_bestLoad {f C CB CW CS : Addr} {fd : FuncData} {kws : List (Str × V)} (F : FunD K "best_load" "best_load" (defArgs sBestLoad) (defBody sBestLoad) (defScope sBestLoad) [] kws f fd) (B : Bl mg) (mz : mg "zip" = none) (mRv : mg "reversed" = none)
    (CLB : Cal P w K mg base (L2.CX P w) 5 "look_bill" ["lot", "bill"] (spLookBill K C CB)) (CLW : Cal P w K mg base (L2.CX P w) 3 "look_wish" ["lot", "wish"] (spLookWish K CW)) (CSt : Cal P w K mg base CX0 5 "steps_within" ["lot", "wish", "bound"] (spStepsW K CS)) (CT : Cal P w K mg base CX0 3 "settled" ["load", "steps"] (spSettled CS)) (CA : Cal P w K mg base CX0 1 "as_load" ["row", "kinds"] (spAsLoad K)) :
    FnOk P w K mg base (L2.CX P w) 6 f fd ["lot", "bill", "wish"] (spBestLoad K C CB CW) := by
  obtain ⟨fB, fdB, GB, gB, kB, bB⟩ := CLB.ex
  obtain ⟨fV, fdV, GV, gV, kV', bV⟩ := CLW.ex
  obtain ⟨fS, fdS, GS, gS, kS, bS⟩ := CSt.ex
  obtain ⟨fT, fdT, GT, gT, kT, bT⟩ := CT.ex
  obtain ⟨fA, fdA, GA, gA, kA, bA⟩ := CA.ex
  refine F.ok scBl (fun vs H Q E h => ?_) (fun cdv A outer s H vs Q E hr h => ?_)
  · obtain ⟨p, bl, v, as, ll, b, ws, rfl, _⟩ := h
    rfl
  · obtain ⟨p, bl, v, as, ll, b, ws, rfl, hL, hB, hbz, hW, hwz, q1, q2, q3, q4⟩ := h
    refine ⟨_, (pss_cons (ps_expr (pe_call GB (hr.mono (by decide)) (by rfl) gB kB bB .nil (passes_call (takes_of rfl rfl rfl rfl) (fun _ _ _ _ h => h)) (pa_cons (pv 0) (pa_cons (pv 1) pa_nil))))
      (pss_cons (ps_expr (pe_call GV (hr.mono (by decide)) (by rfl) gV kV' bV .nil (passes_call (takes_of rfl rfl rfl rfl) (fun _ _ _ _ h => h)) (pa_cons (pv 0) (pa_cons (pv 2) pa_nil))))
      (pss_cons (ps_set (i := 3) scBl.nd rfl (.inl rfl) (pe_call GS (hr.mono (by decide)) (by rfl) gS kS bS .nil pass0 (pa_cons (pv 0) (pa_cons (pv 2) (pa_cons (pv 1) pa_nil)))))
      (pss_cons (ps_set (i := 4) scBl.nd rfl (.inl rfl) (pe_op op_repA (pe_tup (pa_cons pe_int pa_nil)) (pe_op op_add (pe_callB call_len_seq (by rfl) B.len PySem.boot_len (pa_cons (pv 0) pa_nil)) (pe_callB call_len_seq (by rfl) B.len PySem.boot_len (pa_cons (pv 1) pa_nil)))))
      (pss_cons (ps_for (passes_of rfl) rfl (pi_revR (by rfl) mRv (prg_1 (by rfl) B.range (pe_bits (pe_callB (cr_maxT rfl hr.units) (by rfl) B.max (by decide +kernel) (pa_cons (pv 1) pa_nil))))) (pg_name (i := 5) scBl.nd rfl (.inr rfl))
      (pss_cons (ps_set (i := 6) scBl.nd rfl (.inl rfl) (pe_op op_catA (pe_op op_repA (pe_tup (pa_cons pe_int pa_nil)) (pe_callB call_len_seq (by rfl) B.len PySem.boot_len (pa_cons (pv 0) pa_nil))) (pe_callTy call_tuple_of (by rfl) B.tuple (by decide +kernel) (pa_cons (pe_lc (own := [("amount", 7)]) (g := gName 7) (tt := tYes) rfl scBl.nd (pi_tup (pv 1))
        (blkOk_by (own := [("amount", 7)]) (N := ["lot", "bill", "wish", "steps", "row", "shift", "fresh", "amount", "more", "number"]) (sc := defScope sBestLoad) (by decide +kernel)) (fun _ _ _ _ _ => pg_name (i := 7) scBl.nd rfl (Or.inl rfl)) (fun _ _ _ _ _ => pts_nil)
        (fun _ _ _ _ _ => (pe_op op_odd (pe_op op_shr (pv 7) (pv 5)) pe_int))) pa_nil))))
      (pss_one (ps_set (i := 4) scBl.nd rfl (.inl rfl) (pe_call GT (hr.mono (by decide)) (by rfl) gT kT bT .nil pass0 (pa_cons (pe_callTy call_tuple_of (by rfl) B.tuple (by decide +kernel) (pa_cons (pe_lc (own := [("number", 9), ("more", 8)]) (g := gTup K 2 (gCons (gName 9) (gCons (gName 8) gNil))) (tt := tYes) rfl scBl.nd (pi_zipA (by rfl) mz (pa_cons (pv 4) (pa_cons (pv 6) pa_nil)))
        (blkOk_by (own := [("number", 9), ("more", 8)]) (N := ["lot", "bill", "wish", "steps", "row", "shift", "fresh", "amount", "more", "number"]) (sc := defScope sBestLoad) (by decide +kernel)) (fun _ _ _ _ _ => (pg_tup rfl (pgs_cons (pg_name (i := 9) scBl.nd rfl (.inl rfl)) (pgs_cons (pg_name (i := 8) scBl.nd rfl (.inl rfl)) pgs_nil)))) (fun _ _ _ _ _ => pts_nil)
        (fun _ _ _ _ _ => (pe_op op_add (pe_op op_mul pe_int (pv 9)) (pv 8)))) pa_nil)) (pa_cons (pv 3) pa_nil)))))))
      (pss_one (ps_ret (pe_call GA (hr.mono (by decide)) (by rfl) gA kA bA .nil pass0 (pa_cons (pv 4) (pa_cons (pe_callB call_len_seq (by rfl) B.len PySem.boot_len (pa_cons (pv 0) pa_nil)) pa_nil)))))))))), ?_⟩
    refine ⟨.ref p, rfl, .ref bl, rfl, p, bl, as, ll, b, rfl, hL, hB.it, hbz, (fun k hk => (q1 k hk).refd (by decide)), (fun ef k hk => (q2 ef (by rw [hk]; exact fun z => by cases z)).refd (by decide)), fun ef ew H1 s1 => ?_⟩
    have hok := flaw_ok ef
    have hlen := hL.1.2.len
    refine ⟨.ref p, rfl, .ref v, rfl, p, v, as, ll, ws, rfl, hL.1.same s1, hL.2.1, hW.same s1, hwz, fun eo H2 s2 => ?_, fun eo => (q3 ef ew eo).same s1⟩
    have hbl : b.length = width ll := by have := (wrong_ok ew).1; omega
    obtain ⟨Z, ⟨D, Fw⟩, q⟩ := q4 ef ew eo
    have s12 := s1.trans s2
    refine ⟨.ref p, rfl, .ref v, rfl, .ref bl, rfl, p, v, bl, as, ll, ws, b, D, rfl, hL.1.same s12, ef, hW.same s12, eo, hB.same s12, hbl, Z, Fw, fun H3 a us ss s3 ha hS hst Fu _ _ _ => ?_⟩
    have s13 := s12.trans s3
    generalize numI ll.length ws = ns at Z q hst
    refine ⟨sz_1 _, fun t1 nt1 => ⟨.ref p, rfl, p, _, rfl, .inr (SqT.of ((same_new nt1) _ _ (s13 _ _ hL.1.1))), .ref bl, rfl, bl, _, rfl, .inr (SqT.of ((same_new nt1) _ _ (s13 _ _ hB))), _, _, rfl, rfl, rep0_readm (n := ll.length + b.length) upd_same (by rw [List.length_map, List.length_map, hlen]; omega) (by omega) (by omega) fun r4 H4 s4 h4 => ?_⟩⟩
    have s34 := (same_new (o := .tup [.int 0]) nt1).trans s4
    have s14 := s13.trans s34
    -- the bits
    have mxb : ∀ {mx : Int}, mx ∈ b → 0 ≤ mx ∧ mx ≤ 100000000000000000000000000000000000000 := fun {mx} h => by
      have h0 := ((wrong_ok ew).2 mx h).1
      obtain ⟨i, hi, e⟩ := List.mem_iff_getElem.mp h
      have h1 := BL.sm_one (g := b.length) (x := vec b) (i := i) (fun j _ => Z.nn j) hi
      rw [vec_at (r := b) (i := i) (z := mx) (by rw [List.getElem?_eq_getElem hi, e])] at h1
      have := Z.few
      omega
    refine ⟨.ref bl, rfl, bl, b, rfl, SqT.of (hB.same s14), by omega, fun mx hmx hmax => ⟨mx, rfl, ?_⟩⟩
    have hL6 : Builtin.Int.intBits mx ≤ 127 := intBits_le_iff.mpr (by
      have h1 := mxb hmx
      have e : (2 : Nat) ^ 127 = 170141183460469231731687303715884105728 := by decide
      rw [e]
      omega)
    have bz : ∀ j, vec b j / 2 ^ (Builtin.Int.intBits mx) = 0 := fun j => by
      by_cases c : j < b.length
      · have hm : b.getD j 0 ∈ b := List.mem_of_getElem? (getD_at c)
        exact bits_lt (Z.nn j) (hmax _ hm)
      · rw [BL.vec_out (by omega)]
        exact Int.zero_ediv _
    generalize Builtin.Int.intBits mx = L at hL6 bz ⊢
    have e0 : (((L : Nat) : Int) - 0).toNat = L := by omega
    refine ⟨_, rfl, by decide, by decide, by omega, by omega, ?_⟩
    rw [e0]
    have A0 := BL.ax (b := vec b) (mu := muv ll b.length (vec ns)) Z.lot
    have hSs : ∀ s, inS ss s → BL.St (ll.length + b.length) (BL.Bv ll b.length) (BL.Okv ll b.length (vec b)) (muv ll b.length (vec ns)) s := fun s ⟨s', hs', e⟩ => by rw [e]; exact (hst s' hs').st
    have at0 : AtBit ll b L (zeros (ll.length + b.length)) := by
      refine ⟨zeros_len _, by rw [vec_zeros]; exact ⟨fun _ => Int.le_refl _, fun _ _ => rfl⟩, ?_⟩
      rw [vec_zeros]
      funext j
      rw [bz j]
      unfold BL.Bv
      split
      · rw [BL.Lb_zero fun _ _ => rfl]
        rfl
      · rfl
    refine for_rangeC (lo := (0 : Int) + ((L : Nat) : Int) - 1) (c := -1) (n := L) (fun j σ H' => ∃ (r : Addr) (rs : List Int) (y5 y6 : Option V), σ = [some (.ref p), some (.ref bl), some (.ref v), some (.ref a), some (.ref r), y5, y6, none, none, none] ∧ Same H3 H' ∧ IntsAt H' r rs ∧ AtBit ll b (L - j) rs ∧ ((∀ s ∈ ss, ¬ BL.Fit (vec s) (vec rs)) ∨ vec rs = fun _ => 0)) ⟨r4, _, none, none, rfl, s34, h4, at0, .inr vec_zeros⟩ (fun j σ H5 hj hI => ?_) (fun σ H5 hI => ?_)
    · obtain ⟨r, rs, y5, y6, rfl, s5, hr5, hat, hirr⟩ := hI
      have ez : (0 : Int) + ((L : Nat) : Int) - 1 + ((j : Nat) : Int) * -1 = ((L - 1 - j : Nat) : Int) := by omega
      rw [ez]
      have ei : L - j = (L - 1 - j) + 1 := by omega
      have ei2 : L - (j + 1) = L - 1 - j := by omega
      rw [ei2]
      rw [ei] at hat
      generalize L - 1 - j = sh at hat ⊢
      have a5 := s13.trans s5
      -- fresh
      refine ⟨sz_1 _, fun t2 nt2 => ⟨.ref p, rfl, p, _, rfl, .inr (SqT.of ((same_new nt2) _ _ (a5 _ _ hL.1.1))), rep0_readm (n := ll.length) upd_same (by rw [List.length_map, hlen]) (by omega) (by omega) fun z6 H6 s6 h6 => ?_⟩⟩
      have s56 := (same_new (o := .tup [.int 0]) nt2).trans s6
      have hB6 : IntsAt H6 bl b := hB.same (a5.trans s56)
      refine ⟨.ref bl, rfl, bl, rfl, ⟨_, SqT.of hB6⟩, fun D nD => ?_⟩
      refine lc_tup (K := K) (a := bl) (xs := b.map V.int) (fun i H' => Same H6 H' ∧ H' D = some (.lst (((b.map fun z => z / 2 ^ sh % 2).take i).map V.int))) ⟨same_new nD, upd_same⟩ (fun i H' _ hP => SqT.of (hB6.same hP.1)) (fun i x H' hx ⟨sm, hD⟩ => ?_) (fun H7 ⟨s7, hD⟩ => ?_)
      · obtain ⟨n, hn, rfl⟩ : ∃ n, b[i]? = some n ∧ x = V.int n := by
          rw [List.getElem?_map] at hx
          cases e : b[i]? with
          | none => rw [e] at hx; cases hx
          | some n => rw [e] at hx; exact ⟨n, rfl, (Option.some.inj hx).symm⟩
        have n0 := (mxb (List.mem_of_getElem? hn)).1
        have d0 : 0 ≤ n / 2 ^ sh := Int.ediv_nonneg n0 (Int.le_of_lt (Int.pow_pos (by decide)))
        refine ⟨rfl, yes (iteT ?_)⟩
        refine ⟨.int n, rfl, .int (sh : Int), rfl, n, (sh : Int), rfl, rfl, by omega, (n / 2 ^ sh).toNat, ?_, rfl, ?_⟩
        · show V.int (n / 2 ^ ((sh : Int)).toNat) = _
          rw [Int.toNat_natCast, Int.toNat_of_nonneg d0]
        · have e : ((((n / 2 ^ sh).toNat % 2 : Nat)) : Int) = n / 2 ^ sh % 2 := by omega
          rw [e]
          exact turn_fn (xs := b.map fun z => z / 2 ^ sh % 2) nD (by rw [List.getElem?_map, hn]; rfl) (by rw [List.length_map]; omega) sm hD (Same.refl _)
      · rw [List.length_map, List.take_of_length_le (by rw [List.length_map]; exact Nat.le_refl _)] at hD
        refine ⟨D, _, rfl, .inl ⟨SqL.of hD, fun t3 nt3 => ?_⟩⟩
        have st3 := same_new (o := .tup ((b.map fun z => z / 2 ^ sh % 2).map V.int)) nt3
        refine cat_ints ((h6.same s7).same st3) (show IntsAt _ t3 (b.map fun z => z / 2 ^ sh % 2) from upd_same) (by rw [zeros_len, List.length_map]; omega) fun fr H8 s8 h8 => ?_
        have s58 := s56.trans (s7.trans (st3.trans s8))
        have hr8 := hr5.same s58
        have h8' : IntsAt H8 fr (frR ll.length b sh) := h8
        have el : rs.length = (frR ll.length b sh).length := by rw [frR_len]; exact hat.len
        have hrl := hat.len
        -- the row doubled
        refine ⟨.ref r, rfl, .ref fr, rfl, r, fr, _, _, rfl, .inr ⟨SqT.of hr8, SqT.of h8', fun D2 nD2 => ?_⟩⟩
        have hat2 := hat.next Z
        have hdl : (dblR rs (frR ll.length b sh)).length = rs.length := dblR_len el
        generalize frR ll.length b sh = fs at h8' el hat2 hdl
        refine ⟨fun i m H' => i + m = rs.length ∧ Same H8 H' ∧ H' D2 = some (.lst (((dblR rs fs).take i).map V.int)), ⟨rs.length, by omega, same_new nD2, upd_same⟩, fun i m H' hW' => ?_⟩
        obtain ⟨em, sm, hD2⟩ := hW'
        have sA : SqT K H' r (rs.map V.int) := SqT.of (hr8.same sm)
        have sB : SqT K H' fr (fs.map V.int) := SqT.of (h8'.same sm)
        by_cases hi : i < rs.length
        · have hxx : rs[i]? = some (rs.getD i 0) := getD_at hi
          have hyy : fs[i]? = some (fs.getD i 0) := getD_at (by omega)
          have g1 : (rs.map V.int)[i]? = some (.int (rs.getD i 0)) := by rw [List.getElem?_map, hxx]; rfl
          have g2 : (fs.map V.int)[i]? = some (.int (fs.getD i 0)) := by rw [List.getElem?_map, hyy]; rfl
          refine .inr ⟨⟨_, _, _, _, sA, sB, g1, g2⟩, fun H9 => Same H8 H9 ∧ H9 D2 = some (.lst (((dblR rs fs).take (i + 1)).map V.int)), fun H9 hN => ⟨m - 1, by omega, by omega, hN⟩, fun x H9 hyy2 => ?_⟩
          obtain ⟨T2, x1, x2, rfl, nT, rfl, f1, f2⟩ := hyy2
          have ex1 := Option.some.inj ((f1 _ sA).symm.trans g1)
          have ex2 := Option.some.inj ((f2 _ sB).symm.trans g2)
          subst ex1 ex2
          have sT := same_new (o := .tup [V.int (rs.getD i 0), V.int (fs.getD i 0)]) nT
          refine ⟨T2, _, rfl, SqT.of upd_same, rfl, _, _, rfl, _, _, rfl, rfl, rfl, yes (iteT ?_)⟩
          refine ⟨_, rfl, _, _, rfl, rfl, .inl ⟨by decide, by decide⟩, _, rfl, _, _, rfl, rfl, ?_⟩
          exact turn_fn (xs := dblR rs fs) nD2 (by unfold dblR; rw [List.getElem?_map, zipI_at hxx hyy]; rfl) (by omega) sm hD2 sT
        · refine .inl ⟨⟨_, _, sA, sB, .inl ?_⟩, ?_⟩
          · rw [List.length_map]
            omega
          · rw [List.take_of_length_le (by omega)] at hD2
            refine ⟨D2, _, rfl, .inl ⟨SqL.of hD2, fun t4 nt4 => ?_⟩⟩
            have st4 := same_new (o := .tup ((dblR rs fs).map V.int)) nt4
            have s38 := (s5.trans s58).trans (sm.trans st4)
            refine ⟨.ref a, rfl, t4, a, dblR rs fs, us, ss, ll, b, ns, rfl, upd_same, s38 _ _ ha, hS.same s38, Z, hat2.row Z, hst, by omega, fun H10 z zs s10 hz Rz rt ir => ?_⟩
            refine ⟨z, zs, _, _, rfl, s38.trans s10, hz, ⟨Rz.len, Rz.ld, ?_⟩, .inl ir⟩
            rw [(BL.rt_keeps A0 hSs rt hat2.ld).2]
            exact hat2.bill
    · obtain ⟨r, rs, y5, y6, rfl, s5, hr5, hat, hirr⟩ := hI
      rw [Nat.sub_self] at hat
      have a5 := s13.trans s5
      refine ⟨.ref r, rfl, .ref p, rfl, p, _, rfl, .inr (SqT.of (a5 _ _ hL.1.1)), r, ll.length, rs, ?_, hr5, fun H6 z s6 hz => q H6 z rs (a5.trans s6) (best_row Z hst Fu hat hirr) hz⟩
      rw [List.length_map, hlen]
      rfl
/-- best_load as it stands: its kw-only default, its call by keyword -/
def CalBL (P : Program) (w : World) (K : PySem.W.Frag) (mg : Str → Option Value) (base : Heap) (k : Nat) (nm : Str) (sp : Sp) : Prop := ∃ (f : Addr) (fd : FuncData) (t : Addr), FnOk P w K mg base (L2.CX P w) k f fd ["lot", "bill", "wish"] sp ∧ mg nm = some (.ref f) ∧ PySem.W.keepIn K (.ref f) = true ∧ Binds K fd ["lot", "bill", "wish"] [.ref t] ∧
  (∀ H, IT K H t []) ∧ KBn K fd ["lot", "bill", "wish"] 2 ["wish"] (fun us ws => us ++ ws) (fun vs zs => vs ++ zs)
end
end HL

namespace HL
open PySem PySem.Spec PyProof.Rows L2
open BL
/-- small lots have few steps -/
theorem few_sm {ll : List (List Int)} {b : List Int} (P : SmallW b.length ll) : ∃ D, Few ll b D := by
  have nk := P.nk
  have c : b.length = 1 ∨ b.length = 2 ∨ b.length = 3 := by have := P.g1; have := P.g3; omega
  by_cases e3 : b.length = 3
  · have P3 : SmallW 3 ll := e3 ▸ P
    have n3 : ll.length ≤ 3 := by have := P3.nk; rw [if_pos rfl] at this; exact this
    have ent := ent_of P3.lot fun h hh n hn => by have := P3.top h hh n hn; rw [if_neg (by decide)] at this; exact this
    refine ⟨189, .inr ⟨n3, e3, fun u v hu hv _ _ e ne np => ?_⟩, by decide, fun u v hu hv _ _ e ne np => ?_⟩
    · rw [e3] at hu hv e np
      exact (np_nine n3 ent P3.lot hu hv e ne np).2
    · rw [e3] at hu hv e np ⊢
      obtain ⟨d, n⟩ := np_nine n3 ent P3.lot hu hv e ne np
      exact np_sum n3 ent hu hv e d n
  · have g12 : b.length = 1 ∨ b.length = 2 := by omega
    rw [if_neg e3] at nk
    exact ⟨9, .inl (few3 _ (by omega) 9 (by decide)), by decide, fun u v hu hv _ _ e ne np => few_w P g12 hu hv e ne np⟩
end HL

namespace HL
open PySem PySem.Spec PyProof.Rows L2
/-! o.m(e, .., k = v, ..) of an instance -/
def tMethK (C : Addr) (m : Str) (n nk : Nat) (sp : Sp) (gV : List V → List V → List V) (E : XK) (ta : TE) (t tk : TA) : TE := fun σ H Q => ta σ H fun x H1 => ∃ a dx fs, x = .ref a ∧ H1 a = some (.ins C dx fs) ∧ fs.lookup m = none ∧
  t σ H1 fun vs H2 => tk σ H2 fun zs H3 => vs.length = n ∧ zs.length = nk ∧ sp (gV (x :: vs) zs) H3 Q E
section
variable {X : Cx} {CX : CXT} {k n : Nat} {f C : Addr} {fd : FuncData} {ps ks : List Str} {sp : Sp} {E : XK} {m : Str} {pos apos : Pos} {e o : Expr} {es : List Expr} {kws : List Keyword} {ta : TE} {t tk : TA} {g : List Value → List Value → List Value} {gV : List V → List V → List V}
theorem pe_methK {pl : Sem Bool} (he : PE X o ta) (c : Cls X.K C) (hm : Meth X.K C m f) (F : FnOk X.prog X.w X.K X.mg X.base CX k f fd ps sp) (hr : Room k X.A) (hb : KBn X.K fd ps (n + 1) ks g gV) (hx : Passes CX X E) (ha : PA X (e :: es) t) (hkw : PK X kws tk)
    (hall : (backToKw pos (keywordEach kws X.env)).all (·.1.isSome) = true := by rfl) (hks : (backToKw pos (keywordEach kws X.env)).filterMap (·.1) = ks := by rfl)
    (hst : starEach (e :: es) X.env = (false, eval e X.env) :: starEach es X.env := by rfl)
    (hpl : ((backTo pos (starEach (e :: es) X.env)).any (·.1) || (backToKw pos (keywordEach kws X.env)).any (·.1.isNone)) = false := by rfl)
    (ht : eval (.Call (.Attribute o m apos) (e :: es) kws pos) X.env = (do
      let ov ← eval o X.env
      standAt apos.atName
      let (f, first) ← holding [ov] (getMethod ov m pl)
      callWith pos f first (backTo pos (starEach (e :: es) X.env)) (backToKw pos (keywordEach kws X.env))) := by rfl) :
    PE X (.Call (.Attribute o m apos) (e :: es) kws pos) (tMethK C m n ks.length sp gV E ta t tk) := by
  refine ⟨fun pins s σ H Q I h => ?_⟩
  refine PySem.W.methodCall_KW (pl := pl) (thn (he.run pins s σ H _ I h) fun u s1 ⟨x, H1, I1, rx, a, dx, fs, ex, ea, l, q⟩ => ?_) ht
  subst ex
  obtain rfl : u = Value.ref a := rx
  refine getmeth_ok I1 ea c hm l ?_
  refine PySem.W.callWith_KW (first := [.ref a]) (h₀ := X.base) I.ok.mod.kin hm.kp hall (thn (ha.run pos pins s1 σ H1 _ I1 q) fun us s2 ⟨vs, H2, I2, r, q2⟩ => ?_) hpl hst
  refine thn (hkw.run pos pins s2 σ H2 _ I2 q2) fun ws s3 ⟨zs, H3, I3, rz, l1, l2, q3⟩ => ⟨I3.kIn, ?_⟩
  rw [hks]
  exact run_fnN (us := .ref a :: us) (vs := .ref a :: vs) F hr hb hx I3 (.cons rfl r) rz (by rw [List.length_cons, l1]) l2 q3
end
end HL

namespace HL
open PySem PySem.Spec PyProof.Rows L2
/-! len(o), str(o), repr(o), o == x of an instance whose class has its own methods for them -/
section
variable {X : Cx} {CX : CXT} {k : Nat} {f C : Addr} {fd : FuncData} {ps : List Str} {sp : Sp} {E : XK}
/-- a method run within a built-in's call -/
theorem run_fnA {A : Around} {pins : List (Addr × Obj)} {σ : L2.St} {H : Hp} {s : Shared} {Q : VK} {us : List Value} {vs : List V} (F : FnOk X.prog X.w X.K X.mg X.base CX k f fd ps sp) (hr : Room k A) (e0 : Env0 X.prog X.w X.K X.mg X.base A X.stack s H) (hb : Binds X.K fd ps []) (hx : Passes CX X E)
    (I : Inv X pins σ H s) (r : Vals vs us) (h : sp vs H Q E) : wpAny (model X.prog X.w) A (call (.ref f) us) (EP X pins σ Q) X.xe s := by
  have hl : (us ++ []).length = ps.length := by rw [List.append_nil, ← r.length]; exact F.len _ _ _ _ h
  have hb' := hb s us I.kIn hl
  rw [List.append_nil] at hb'
  refine wpAny_call (codeAny_mono (F.run A X.stack s H ⟨us, []⟩ us vs Q E hr e0 hb' r h) fun r s' hq => ?_)
  cases r with
  | error e => exact hx pins σ H s e s' I hq
  | ok fl =>
    cases fl with
    | ret u => exact I.after hq
    | next => exact False.elim hq
    | brk => exact False.elim hq
    | cont => exact False.elim hq
/-- what is asked of a method behind a built-in: R of its answer -/
def rDun (C : Addr) (sp : Sp) (R : VK → VK) (E : XK) : List V → Hp → VK → Prop := fun xs H Q => ∃ a dx fs, xs = [.ref a] ∧ H a = some (.ins C dx fs) ∧ sp [.ref a] H (R Q) E
def lenQ : VK → VK := fun Q v H => ∃ n : Int, v = .int n ∧ (0 ≤ n ∧ n < 2 ^ 63) ∧ Q (.int n) H
def strQ : VK → VK := fun Q v H => ∃ z : Str, v = .str z ∧ Q (.str z) H
theorem call_lenO (F : FnOk X.prog X.w X.K X.mg X.base CX k f fd ps sp) (hs : PySem.W.findIn X.K (.ref C) "__len__" = some (some (.ref f))) (hf : PySem.W.isFn X.K (.ref f) = true) (hb : Binds X.K fd ps []) (hr : Room (k + 1) X.A) (hx : Passes CX X E) : CallR X (.builtin "len") (rDun C sp lenQ E) := by
  intro pins s σ H vs us Q I rv h
  obtain ⟨a, dx, fs, rfl, ha, h⟩ := h
  cases rv with
  | cons r0 t0 =>
  cases t0
  cases r0
  obtain ⟨mA, J, _⟩ := ins_get I.hok ha
  obtain ⟨od, J, _⟩ := J.look
  obtain ⟨m, hF⟩ := I.fr
  refine PySem.W.len_K hF I.ok.mod.kin J hs hf (wpAny_mono (run_fnA (us := [.ref a]) (vs := [.ref a]) F hr.in1 I.env0.in1 hb hx I (.cons rfl .nil) h) (fun u s' hq => ?_) fun _ _ x => x)
  obtain ⟨v, H', I', rv, n, rfl, hn, q⟩ := hq
  obtain ⟨t, rfl⟩ := rv
  exact ⟨hn, .int n, H', I'.tok _, ⟨_, rfl⟩, q⟩
theorem call_reprO (F : FnOk X.prog X.w X.K X.mg X.base CX k f fd ps sp) (hs : PySem.W.findIn X.K (.ref C) "__repr__" = some (some (.ref f))) (hf : PySem.W.isFn X.K (.ref f) = true) (hb : Binds X.K fd ps []) (hr : Room (k + 1) X.A) (hx : Passes CX X E) : CallR X (.builtin "repr") (rDun C sp strQ E) := by
  intro pins s σ H vs us Q I rv h
  obtain ⟨a, dx, fs, rfl, ha, h⟩ := h
  cases rv with
  | cons r0 t0 =>
  cases t0
  cases r0
  obtain ⟨mA, J, _⟩ := ins_get I.hok ha
  obtain ⟨od, J, _⟩ := J.look
  obtain ⟨m, hF⟩ := I.fr
  refine PySem.W.repr_K hr.in1.units0 hF I.ok.mod.kin J hs hf (wpAny_mono (run_fnA (us := [.ref a]) (vs := [.ref a]) F hr.in1 I.env0.in1 hb hx I (.cons rfl .nil) h) (fun u s' hq => ?_) fun _ _ x => x)
  obtain ⟨v, H', I', rv, z, rfl, q⟩ := hq
  obtain ⟨t, rfl⟩ := rv
  exact ⟨.str z, H', I', ⟨_, rfl⟩, q⟩
theorem call_strO (F : FnOk X.prog X.w X.K X.mg X.base CX k f fd ps sp) (hs : PySem.W.findIn X.K (.ref C) "__str__" = some (some (.ref f))) (hf : PySem.W.isFn X.K (.ref f) = true) (hb : Binds X.K fd ps []) (hr : Room (k + 2) X.A) (hx : Passes CX X E) : CallR X (.type "str") (rDun C sp strQ E) := by
  intro pins s σ H vs us Q I rv h
  obtain ⟨a, dx, fs, rfl, ha, h⟩ := h
  cases rv with
  | cons r0 t0 =>
  cases t0
  cases r0
  obtain ⟨mA, J, _⟩ := ins_get I.hok ha
  obtain ⟨od, J, _⟩ := J.look
  have hr2 : Room k X.A.in1.in1 := (Room.in1 (k := k + 1) hr).in1
  refine PySem.W.kso_call hr2.units0 I.kIn J hs hf (wpAny_mono (run_fnA (us := [.ref a]) (vs := [.ref a]) F hr2 I.env0.in1.in1 hb hx I (.cons rfl .nil) h) (fun u s' hq => ?_) fun _ _ x => x)
  obtain ⟨v, H', I', rv, z, rfl, q⟩ := hq
  obtain ⟨t, rfl⟩ := rv
  exact ⟨.str z, H', I', ⟨_, rfl⟩, q⟩
end
end HL

namespace HL
open PySem PySem.Spec PyProof.Rows L2 SX
open TL (tl)
/-! ### numbers in a text -/
abbrev ten : List Nat := [48, 49, 50, 51, 52, 53, 54, 55, 56, 57]
def figs : List Nat → List Nat
  | 45 :: r => r
  | z => z
def dig (c : Nat) : Bool := decide (c ∈ ten)
def hd0 (z : List Nat) : Bool := decide (z.head? = some 48)
def isNum (z : List Nat) : Bool := decide (1 ≤ (figs z).length ∧ (figs z).length ≤ 30) && ((figs z).all dig && (!hd0 (figs z) || decide (z = [48])))
def valW (z : List Nat) : Int := match z with
  | 45 :: r => -((NumText.digitsVal r : Nat) : Int)
  | z => ((NumText.digitsVal z : Nat) : Int)
def numV (z : List Nat) : V := if isNum z = true then .int (valW z) else .non
theorem dig_iff {c : Nat} : dig c = true ↔ 48 ≤ c ∧ c ≤ 57 := by
  unfold dig ten
  rw [decide_eq_true_iff]
  simp only [List.mem_cons, List.mem_nil_iff, or_false]
  omega
theorem figs_ne {z : List Nat} (h : z.head? ≠ some 45) : figs z = z := by
  unfold figs
  split
  · exact absurd rfl h
  · rfl
theorem figs_le (z : List Nat) : (figs z).length ≤ z.length := by
  unfold figs
  split
  · rw [List.length_cons]
    omega
  · exact Nat.le_refl _
theorem valW_ne {z : List Nat} (h : z.head? ≠ some 45) : valW z = ((NumText.digitsVal z : Nat) : Int) := by
  unfold valW
  split
  · exact absurd rfl h
  · rfl
theorem isNum_parts {z : List Nat} (h : isNum z = true) : 1 ≤ (figs z).length ∧ (figs z).length ≤ 30 ∧ NumText.AllDigits (figs z) := by
  unfold isNum at h
  rw [Bool.and_eq_true, Bool.and_eq_true, decide_eq_true_iff, List.all_eq_true] at h
  exact ⟨h.1.1, h.1.2, fun c hc => dig_iff.mp (h.2.1 c hc)⟩
theorem int_word {z : List Nat} (h : isNum z = true) : intText? (S z) = some (valW z) ∧ (S z).length ≤ 640 := by
  obtain ⟨h1, h2, h3⟩ := isNum_parts h
  have hz : z.length ≤ 31 := by
    unfold figs at h2
    split at h2
    · rw [List.length_cons]
      omega
    · omega
  have hl : (S z).length ≤ 640 := by
    rw [S_len]
    omega
  refine ⟨?_, hl⟩
  by_cases c : z.head? = some 45
  · cases z with
    | nil => cases c
    | cons x r =>
      have e : x = 45 := Option.some.inj c
      subst e
      have h3' : NumText.AllDigits r := h3
      have h1' : 1 ≤ r.length := h1
      have := intText_neg (x := S (45 :: r)) (cs := r) rfl h3' (fun e => by rw [e] at h1'; simp at h1') (by omega)
      exact this
  · rw [figs_ne c] at h1 h3
    have := intText_digits (x := S z) h3 (fun e => by rw [show z = [] from e] at h1; simp at h1) (by omega)
    rw [valW_ne c]
    exact this
/-! ### numbers written -/
def wr (n : Int) : List Nat := if 0 ≤ n then TL.numL n.toNat else 45 :: TL.numL n.natAbs
theorem tl_wr (n : Int) : Str.ofString (toString n) = S (wr n) := by
  refine TL.ext_tl ?_
  unfold wr
  by_cases h : 0 ≤ n
  · rw [if_pos h]
    have e : n = ((n.toNat : Nat) : Int) := by omega
    have := TL.tl_num n.toNat
    rw [← e] at this
    exact this
  · rw [if_neg h]
    obtain ⟨m, rfl⟩ : ∃ m : Nat, n = Int.negSucc m := by
      cases n with
      | ofNat m => exact absurd (Int.natCast_nonneg m) h
      | negSucc m => exact ⟨m, rfl⟩
    have e1 : toString (Int.negSucc m) = "-" ++ toString ((m + 1 : Nat) : Int) := rfl
    rw [e1]
    have e2 : Str.ofString ("-" ++ toString ((m + 1 : Nat) : Int)) = Str.ofString "-" ++ Str.ofString (toString ((m + 1 : Nat) : Int)) := by
      refine TL.ext_tl ?_
      rw [TL.tl_append, TL.tl_ofString, TL.tl_ofString, TL.tl_ofString, String.toList_append, List.map_append]
    rw [e2, TL.tl_append, TL.tl_num]
    rfl
theorem numL_head {n : Nat} (h : 0 < n) : (TL.numL n).head? ≠ some 48 := by
  induction n using Nat.strongRecOn with
  | _ n ih =>
    by_cases c : n < 10
    · rw [TL.numL_lt c]
      intro e
      have := Option.some.inj e
      omega
    · have i1 := ih (n / 10) (by omega) (by omega)
      rw [TL.numL_step (by omega)]
      cases e : TL.numL (n / 10) with
      | nil => exact absurd e (TL.numL_ne _)
      | cons x r =>
        rw [e] at i1
        exact i1
theorem numL_h45 (n : Nat) : (TL.numL n).head? ≠ some 45 := fun e => by
  have hm : 45 ∈ TL.numL n := List.mem_of_mem_head? e
  have := TL.numL_digits n 45 hm
  omega
theorem wr_free {n : Int} {s : Nat} (h : s < 48 ∨ 57 < s) (h2 : s ≠ 45) : s ∉ wr n := by
  unfold wr
  split
  · exact TL.numL_free h
  · intro hm
    rcases List.mem_cons.mp hm with e | e
    · exact h2 e
    · exact TL.numL_free h e
theorem wr_len {n : Int} (h : n.natAbs < 10 ^ 30) : (wr n).length ≤ 31 := by
  unfold wr
  split
  · have := TL.numL_len (n := n.toNat) (k := 30) (by decide) (by omega)
    omega
  · have := TL.numL_len (n := n.natAbs) (k := 30) (by decide) h
    rw [List.length_cons]
    omega
theorem wr_num {n : Int} (h : n.natAbs < 10 ^ 30) : isNum (wr n) = true ∧ valW (wr n) = n := by
  by_cases c : 0 ≤ n
  · have e : wr n = TL.numL n.toNat := by unfold wr; rw [if_pos c]
    have hf : figs (TL.numL n.toNat) = TL.numL n.toNat := figs_ne (numL_h45 _)
    have hl := TL.numL_len (n := n.toNat) (k := 30) (by decide) (by omega)
    have hn : 1 ≤ (TL.numL n.toNat).length := by
      cases z : TL.numL n.toNat with
      | nil => exact absurd z (TL.numL_ne _)
      | cons x r => rw [List.length_cons]; omega
    rw [e]
    refine ⟨?_, ?_⟩
    · unfold isNum
      rw [hf, Bool.and_eq_true, Bool.and_eq_true, decide_eq_true_iff, List.all_eq_true]
      refine ⟨⟨hn, hl⟩, fun x hx => dig_iff.mpr (TL.numL_digits _ x hx), ?_⟩
      by_cases z : n.toNat = 0
      · rw [z]
        decide
      · have : hd0 (TL.numL n.toNat) = false := decide_eq_false (numL_head (by omega))
        rw [this]
        rfl
    · rw [valW_ne (numL_h45 _), TL.numL_val]
      omega
  · have e : wr n = 45 :: TL.numL n.natAbs := by unfold wr; rw [if_neg c]
    have hl := TL.numL_len (n := n.natAbs) (k := 30) (by decide) h
    have hn : 1 ≤ (TL.numL n.natAbs).length := by
      cases z : TL.numL n.natAbs with
      | nil => exact absurd z (TL.numL_ne _)
      | cons x r => rw [List.length_cons]; omega
    rw [e]
    refine ⟨?_, ?_⟩
    · show (decide (1 ≤ (TL.numL n.natAbs).length ∧ (TL.numL n.natAbs).length ≤ 30) && ((TL.numL n.natAbs).all dig && (!hd0 (TL.numL n.natAbs) || decide (45 :: TL.numL n.natAbs = [48])))) = true
      rw [Bool.and_eq_true, Bool.and_eq_true, decide_eq_true_iff, List.all_eq_true]
      refine ⟨⟨hn, hl⟩, fun x hx => dig_iff.mpr (TL.numL_digits _ x hx), ?_⟩
      have : hd0 (TL.numL n.natAbs) = false := decide_eq_false (numL_head (by omega))
      rw [this]
      rfl
    · show -((NumText.digitsVal (TL.numL n.natAbs) : Nat) : Int) = n
      rw [TL.numL_val]
      omega
/-! ### rows in a text -/
def wordsOf (z : List Nat) : List (List Nat) := TL.spl [44] 0 [] z
theorem split_words (z : List Nat) : Txt.split (S z) (S [44]) = (wordsOf z).map S := split_S (by decide) (by decide)
def rowL (ns : List Int) : List Nat := TL.joinL [44] (ns.map wr)
theorem words_row {ns : List Int} (h : ns ≠ []) : wordsOf (rowL ns) = ns.map wr := by
  refine TL.spl_join (fun e => h (List.map_eq_nil_iff.mp e)) fun p hp => ?_
  obtain ⟨n, _, rfl⟩ := List.mem_map.mp hp
  exact wr_free (.inl (by decide)) (by decide)
theorem join_row (ns : List Int) : Txt.join (S [44]) ((ns.map wr).map S) = S (rowL ns) := join_S _ _
theorem joinL_len : ∀ {ps : List (List Nat)} {k : Nat}, (∀ p ∈ ps, p.length ≤ k) → (TL.joinL [44] ps).length ≤ ps.length * (k + 1)
  | [], k, _ => Nat.zero_le _
  | [p], k, h => by
    have := h p List.mem_cons_self
    show p.length ≤ 1 * (k + 1)
    omega
  | p :: q :: r, k, h => by
    have h1 := h p List.mem_cons_self
    have h2 := joinL_len (ps := q :: r) (k := k) fun z hz => h z (List.mem_cons_of_mem _ hz)
    show (p ++ ([44] ++ TL.joinL [44] (q :: r))).length ≤ (q :: r).length.succ * (k + 1)
    rw [List.length_append, List.length_append, List.length_singleton, Nat.succ_mul]
    omega
theorem rowL_len {ns : List Int} (h : ∀ n ∈ ns, n.natAbs < 10 ^ 30) : (rowL ns).length ≤ ns.length * 32 := by
  have := joinL_len (ps := ns.map wr) (k := 31) fun p hp => by
    obtain ⟨n, hn, rfl⟩ := List.mem_map.mp hp
    exact wr_len (h n hn)
  rw [List.length_map] at this
  exact this
theorem spl_len : ∀ (z acc : List Nat), (TL.spl [44] 0 acc z).length ≤ z.length + 1 ∧ ∀ p ∈ TL.spl [44] 0 acc z, p.length ≤ acc.length + z.length
  | [], acc => by
    rw [TL.spl_nil]
    exact ⟨Nat.le_refl _, fun p hp => by rw [List.mem_singleton.mp hp]; exact Nat.le_refl _⟩
  | c :: r, acc => by
    cases e : TL.pre [44] (c :: r) with
    | true =>
      rw [TL.spl_hit e]
      obtain ⟨h1, h2⟩ := spl_len r []
      refine ⟨by rw [List.length_cons, List.length_cons]; exact Nat.succ_le_succ h1, fun p hp => ?_⟩
      rcases List.mem_cons.mp hp with x | x
      · rw [x]; omega
      · have := h2 p x
        rw [List.length_cons]
        simp at this
        omega
    | false =>
      rw [TL.spl_miss e]
      obtain ⟨h1, h2⟩ := spl_len r (acc ++ [c])
      refine ⟨by rw [List.length_cons]; omega, fun p hp => ?_⟩
      have := h2 p hp
      rw [List.length_append, List.length_singleton] at this
      rw [List.length_cons]
      omega
theorem words_len (z : List Nat) : (wordsOf z).length ≤ z.length + 1 ∧ ∀ p ∈ wordsOf z, p.length ≤ z.length := by
  have := spl_len z []
  exact ⟨this.1, fun p hp => by have := this.2 p hp; simp at this; exact this⟩
/-- a prefix taken away -/
theorem rp_eq (z : List Nat) : Txt.removeprefix (S z) (S [45]) = S (figs z) := by
  rw [PySem.StrLaws.removeprefix_eq]
  have key := TL.at_iff (x := S z) (y := S [45]) (by decide) 0
  rw [List.drop_zero] at key
  have key2 : (decide (0 + (S [45]).length ≤ (S z).length) && Builtin.Str.subAt (S z) (S [45]) 0) = true ↔ TL.pre [45] z = true := by
    rw [Bool.and_eq_true, decide_eq_true_iff]
    exact key
  cases z with
  | nil =>
    rw [if_neg (fun h => by have := key2.mp h; cases this)]
    rfl
  | cons c r =>
    by_cases h : c = 45
    · subst h
      rw [if_pos (key2.mpr (TL.pre_self [45] r))]
      refine TL.ext_tl ?_
      show (List.drop 1 (45 :: r)).take _ = r
      rw [List.drop_succ_cons, List.drop_zero]
      refine List.take_of_length_le ?_
      rw [S_len, S_len, List.length_cons, List.length_singleton]
      omega
    · rw [if_neg (fun h2 => ?_)]
      · rw [figs_ne (z := c :: r) (fun e => h (Option.some.inj e))]
      · have := key2.mp h2
        rw [TL.pre_of_head [] r h] at this
        cases this
end HL

namespace HN
open PySem PySem.Spec PyProof.Rows PySem.SeqAt
section
variable {M : Model} {prog : Program} {w : World} {A : Around} {E : Value → Shared → Prop} {s : Shared} {K : PySem.W.Frag} {x C f : Addr} {ox : Obj} {od : Option Obj} {b tb : Value}
theorem ifBound_objNe {args : List Value} {Q : Option Value → Shared → Prop} (X : K.In s.heap) (I : PySem.W.InstAt s.heap x ox C od) (hs : PySem.W.findIn K (.ref C) "__ne__" = some (some (.builtin "object.__ne__")))
    (h : wpAny M A (call (.builtin "object.__ne__") (.ref x :: args)) (fun v => Q (some v)) E s) : wpAny M A (callSpecialIfBound? (.ref x) "__ne__" args) Q E s := by
  simp only [callSpecialIfBound?, bindSpecialIfBound?]
  refine wpAny_holding (wpAny_bind (wpAny_bind (wpAny_bind (I.type.here ((PySem.W.looks_findIn X hs).here ?_)))))
  refine wpAny_bind (wpAny_askSetting (wpAny_ite ?_))
  have fin : wpAny M A (call (.builtin "object.__ne__") ([.ref x] ++ args) >>= fun v => pure (some v)) Q E s := wpAny_bind (wpAny_mono h (fun v s' h' => wpAny_pure h') fun _ _ h' => h')
  split
  · exact wpAny_bind (wpAny_of_eq (F.cmp_object.ne.bind _) (wpAny_pure (by exact fin)))
  · exact wpAny_tryCatch (wpAny_bind (wpAny_of_eq (F.cmp_object.ne.bind _) (wpAny_pure (by exact fin))))
theorem entry_ownNe (X : K.In s.heap) (I : PySem.W.InstAt s.heap x ox C od) (hs : PySem.W.findIn K (.ref C) "__eq__" = some (some (.ref f))) (hf : PySem.W.isFn K (.ref f) = true) (hu : A.units < cLine) {Q : Fin → Shared → Prop}
    (hcall : wpAny (model prog w) A (call (.ref f) [.ref x, b]) (fun v s' => ∃ r, v = .bool r ∧ Q (.done (.ret (.bool (!r)))) s') E s) : wpAny (model prog w) A (Builtin.«object.__ne__» ⟨[.ref x, b], []⟩) Q E s := by
  unfold Builtin.«object.__ne__»
  repeat (first
    | with_reducible refine wpAny_cRoomFor hu ?_
    | (refine wpAny_bind (m := callSpecialIfBound? (.ref x) (Str.ofString "__eq__") [b])
        (PySem.W.ifBound_K X I hs hf (wpAny_mono hcall (fun r s' hr => by
          obtain ⟨b, rfl, hq⟩ := hr
          repeat (first | exact hq | exact wpAny_pure hq | exact wpAny_truthy_bool hq | (refine wpAny_bind (m := truthy (.bool _)) (wpAny_truthy_bool ?_)) | wp_step)) fun _ _ e => e)))
    | wp_step)
theorem tryNe_own (X : K.In s.heap) (I : PySem.W.InstAt s.heap x ox C od) (hm : PySem.W.mroIn K C (.type "object") = some true) (hn : PySem.W.findIn K (.ref C) "__ne__" = some (some (.builtin "object.__ne__"))) (hs : PySem.W.findIn K (.ref C) "__eq__" = some (some (.ref f))) (hf : PySem.W.isFn K (.ref f) = true) (hu : A.units + 1 < cLine) {Q : Option Value → Shared → Prop}
    (hcall : wpAny (model prog w) A.in1 (call (.ref f) [.ref x, b]) (fun v s' => ∃ r, v = .bool r ∧ Q (some (.bool (!r))) s') E s) : wpAny (model prog w) A (tryCompare (.ref x) "__ne__" b) Q E s := by
  simp only [tryCompare]
  refine wpAny_bind (ifBound_objNe X I hn (wpAny_call (codeAny_call_builtin F.cmp_object.ne.plain F.cmpEntry_ne (PySem.W.check_slot F.cmpKind_ne F.cmpSplit_ne (I.type.andThen (PySem.W.looks_mroIn X hm)) (F.cmpArgs_ne _ _)
    (entry_ownNe (A := A.in1) X I hs hf hu (wpAny_mono hcall (fun v s' hv => ?_) fun _ _ e => e))))))
  obtain ⟨b, rfl, hq⟩ := hv
  first | exact ⟨b, rfl, wpAny_pure hq⟩ | exact ⟨b, rfl, wpAny_pure (wpAny_pure hq)⟩ | exact ⟨b, rfl, hq⟩
/-- x != y of two instances of a class with its own ==, without != of its own -/
theorem rc_ownNe {y : Addr} (X : K.In s.heap) (I : PySem.W.InstAt s.heap x ox C od) (hy : PySem.W.Looks (model prog w) s.heap (typeOf (.ref y)) (.ref C)) (hm : PySem.W.mroIn K C (.type "object") = some true) (hn : PySem.W.findIn K (.ref C) "__ne__" = some (some (.builtin "object.__ne__"))) (hs : PySem.W.findIn K (.ref C) "__eq__" = some (some (.ref f))) (hf : PySem.W.isFn K (.ref f) = true) (hu : A.units + 1 < cLine) {Q : Value → Shared → Prop}
    (hcall : wpAny (model prog w) A.in1 (call (.ref f) [.ref x, .ref y]) (fun v s' => ∃ r, v = .bool r ∧ Q (.bool (!r)) s') E s) : wpAny (model prog w) A (richCompare .NotEq (.ref x) (.ref y)) Q E s := by
  unfold richCompare
  simp only [oneThing_ref]
  refine wpAny_holding (wpAny_bind (wpAny_cRoomFor (Nat.lt_of_succ_lt hu) ?_))
  rw [cmpInfo_NotEq]
  dsimp only
  refine wpAny_bind (I.type.here (wpAny_bind (hy.here ?_)))
  rw [show (Value.ref C != Value.ref C) = false from by simp]
  simp only [Bool.false_eq_true, if_false]
  refine wpAny_bind (wpAny_pure ?_)
  simp only [Bool.false_eq_true, if_false]
  refine wpAny_bind (tryNe_own X I hm hn hs hf hu (wpAny_mono hcall (fun v s' hv => ?_) fun _ _ e => e))
  obtain ⟨b, rfl, hq⟩ := hv
  first | exact ⟨b, rfl, wpAny_pure hq⟩ | exact ⟨b, rfl, wpAny_pure (wpAny_pure hq)⟩
end
end HN
namespace HL
open PySem PySem.Spec PyProof.Rows L2
/-- what stands right of an own ==, and its type -/
inductive RhT (H : Hp) : V → Addr → Prop where
  | ins {b C dy : Addr} {gs : List (Str × V)} (e : H b = some (.ins C dy gs)) : RhT H (.ref b) C
  | tup {b C : Addr} {xs : List V} (e : H b = some (.tup xs)) : RhT H (.ref b) C
  | str {z : Str} {C : Addr} : RhT H (.str z) C
theorem sub_tup {K : PySem.W.Frag} {C : Addr} : PySem.W.subIn K (.type "tuple") (.ref C) = some false := by
  have e : fastBuiltinMro "tuple" = some [.type "tuple", .type "object"] := by decide +kernel
  show (fastBuiltinMro "tuple").map (·.contains (.ref C)) = some false
  rw [e]
  first
    | rfl
    | simp
theorem sub_str {K : PySem.W.Frag} {C : Addr} : PySem.W.subIn K (.type "str") (.ref C) = some false := by
  have e : fastBuiltinMro "str" = some [.type "str", .type "object"] := by decide +kernel
  show (fastBuiltinMro "str").map (·.contains (.ref C)) = some false
  rw [e]
  first
    | rfl
    | simp
/-- o == x by o's own __eq__ -/
def rOwnEq (C : Addr) (sp : Sp) (E : XK) : R2 := fun x y H Q => ∃ a dx fs, x = .ref a ∧ H a = some (.ins C dx fs) ∧ RhT H y C ∧ sp [x, y] H (fun v H' => ∃ k, v = .bl k ∧ Q (.bl k) H') E
/-- o != x by o's own __eq__ -/
def rOwnNe (C : Addr) (sp : Sp) (E : XK) : R2 := fun x y H Q => ∃ a dx fs b dy gs, x = .ref a ∧ H a = some (.ins C dx fs) ∧ y = .ref b ∧ H b = some (.ins C dy gs) ∧ sp [x, y] H (fun v H' => ∃ k, v = .bl k ∧ Q (.bl (!k)) H') E
section
variable {X : Cx} {CX : CXT} {k : Nat} {f C : Addr} {fd : FuncData} {ps : List Str} {sp : Sp} {E : XK}
theorem op_ownEq (F : FnOk X.prog X.w X.K X.mg X.base CX k f fd ps sp) (hs : PySem.W.findIn X.K (.ref C) "__eq__" = some (some (.ref f))) (hf : PySem.W.isFn X.K (.ref f) = true) (hb : Binds X.K fd ps []) (hr : Room k X.A) (hx : Passes CX X E) : OpR X (compareOp .Eq) (rOwnEq C sp E) := by
  intro pins s σ H x y v u Q I rx ry h
  obtain ⟨a, dx, fs, rfl, ha, hy, q⟩ := h
  cases (show v = Value.ref a from rx)
  obtain ⟨mA, J, _⟩ := ins_get I.hok ha
  obtain ⟨od, J, _⟩ := J.look
  obtain ⟨m, hF⟩ := I.fr
  show wpAny (model X.prog X.w) X.A (richCompare .Eq (.ref a) u) (EP X pins σ Q) X.xe s
  have go : ∀ {tb : Value}, PySem.W.Looks (model X.prog X.w) s.heap (typeOf u) tb → PySem.W.notFirst X.K C tb = true → wpAny (model X.prog X.w) X.A (richCompare .Eq (.ref a) u) (EP X pins σ Q) X.xe s := fun {tb} hl hn => by
    refine PySem.W.cmp_K (op := .Eq) (tb := tb) hr.units0 hF I.ok.mod.kin J hl hn hs hf (wpAny_mono (run_fnA (us := [.ref a, u]) (vs := [.ref a, y]) F hr I.env0 hb hx I (.cons rfl (.cons ry .nil)) q) (fun w s' z => ?_) fun _ _ x => x)
    obtain ⟨v', H', I', rv, k', rfl, hq⟩ := z
    cases rv
    exact ⟨.bl k', H', I', rfl, hq⟩
  cases hy with
  | @ins b _ dy gs e =>
    cases (show u = Value.ref b from ry)
    obtain ⟨mB, J', _⟩ := ins_get I.hok e
    obtain ⟨od', J', _⟩ := J'.look
    exact go J'.type (by simp [PySem.W.notFirst])
  | @tup b _ xs e =>
    cases (show u = Value.ref b from ry)
    obtain ⟨_, _, _, o, h1, h2, _⟩ := (show ObjOk X.prog X.w H s.heap b (.tup xs) from I.hok b _ e)
    exact go (tb := .type "tuple") (h2 ▸ (PySem.W.Looks.ld h1).andThen .now) (by unfold PySem.W.notFirst; rw [sub_tup]; rfl)
  | @str z _ =>
    obtain ⟨t, rfl⟩ := (show ∃ t, u = Value.str z t from ry)
    exact go (tb := .type "str") (PySem.W.Looks.of_pure rfl) (by unfold PySem.W.notFirst; rw [sub_str]; rfl)
theorem op_ownNe (F : FnOk X.prog X.w X.K X.mg X.base CX k f fd ps sp) (hm : PySem.W.mroIn X.K C (.type "object") = some true) (hn : PySem.W.findIn X.K (.ref C) "__ne__" = some (some (.builtin "object.__ne__"))) (hs : PySem.W.findIn X.K (.ref C) "__eq__" = some (some (.ref f))) (hf : PySem.W.isFn X.K (.ref f) = true) (hb : Binds X.K fd ps []) (hr : Room (k + 1) X.A) (hx : Passes CX X E) : OpR X (compareOp .NotEq) (rOwnNe C sp E) := by
  intro pins s σ H x y v u Q I rx ry h
  obtain ⟨a, dx, fs, b, dy, gs, rfl, ha, rfl, e, q⟩ := h
  cases (show v = Value.ref a from rx)
  cases (show u = Value.ref b from ry)
  obtain ⟨mA, J, _⟩ := ins_get I.hok ha
  obtain ⟨od, J, _⟩ := J.look
  obtain ⟨mB, J', _⟩ := ins_get I.hok e
  obtain ⟨od', J', _⟩ := J'.look
  show wpAny (model X.prog X.w) X.A (richCompare .NotEq (.ref a) (.ref b)) (EP X pins σ Q) X.xe s
  refine HN.rc_ownNe I.kIn J J'.type hm hn hs hf hr.in1.units0 (wpAny_mono (run_fnA (us := [.ref a, .ref b]) (vs := [.ref a, .ref b]) F hr.in1 I.env0.in1 hb hx I (.cons rfl (.cons rfl .nil)) q) (fun w s' z => ?_) fun _ _ x => x)
  obtain ⟨v', H', I', rv, k', rfl, hq⟩ := z
  cases rv
  exact ⟨k', rfl, .bl (!k'), H', I', rfl, hq⟩
end
end HL

set_option pp.maxSteps 2000
namespace HL
open PySem PySem.Spec PyProof.Rows L2
open C8 (pss_cut)
open BL (vec Lb Bv Ld muv St1 RowOk)
theorem good_flaw {g m : Int} {ll : List (List Int)} (g1 : 1 ≤ g) (g3 : g ≤ 3) (m6 : m ≤ 6) (h : GoodLot g m 5 ll) : flaw ll = none := by
  obtain ⟨h1, h2, h3⟩ := h
  have hw : width ll = g.toNat := by
    cases ll with
    | nil => simp at h1
    | cons r rs => exact (h3 r List.mem_cons_self).1
  unfold flaw
  rw [if_pos ⟨h1, h2, by omega, by omega⟩]
  exact flawIn_none fun j r hj hjr => by
    obtain ⟨e1, e2, e3⟩ := h3 r (List.mem_of_getElem? hjr)
    refine okRow_iff.mpr ⟨by rw [e1, hw], fun n hn => ?_, e3⟩
    have := e2 n hn
    omega
theorem Rows.lput {H : Hp} {D : Addr} {xs ys : List V} {bs : List Addr} {ll : List (List Int)} (R : Rows H bs ll) (hD : H D = some (.lst xs)) : Rows (upd H D (.lst ys)) bs ll := R.mono fun b zs e => by
  rw [upd_ne (ne_of e hD (fun z => by cases z))]
  exact e
theorem flaw_kd {ll : List (List Int)} (h : flaw ll = none) : ∀ x ∈ ll, Kd (width ll) x := fun x hx => by
  obtain ⟨h1, h2, h3⟩ := okRow_iff.mp (okRow_all h x hx)
  exact ⟨h1, fun n hn => (h2 n hn).1, h3⟩
theorem eqd_ints {H : Hp} {a b : Addr} {xs : List Int} {d : Nat} (ha : IntsAt H a xs) (hb : IntsAt H b xs) (hz : xs.length ≤ 1000) : Eqd H (d + 1) (.ref a) (.ref b) := eqd_tup ha hb (by rw [List.length_map]; exact hz) fun x hx => by
  obtain ⟨n, _, rfl⟩ := List.mem_map.mp hx
  rfl
theorem eqd_load {H : Hp} {a b : Addr} {q : List Int × List Int} (ha : LdAt H a q) (hb : LdAt H b q) (h1 : q.1.length ≤ 1000) (h2 : q.2.length ≤ 1000) : Eqd H 2 (.ref a) (.ref b) := by
  obtain ⟨c, l, e1, e2, e3⟩ := ha
  obtain ⟨c', l', f1, f2, f3⟩ := hb
  refine .inr ⟨a, b, _, _, rfl, rfl, .inr ⟨e1, f1⟩, rfl, (by show 2 ≤ 1000; decide), fun i x y g1 g2 => ?_⟩
  match i, g1, g2 with
  | 0, g1, g2 =>
    cases Option.some.inj g1
    cases Option.some.inj g2
    exact eqd_ints e2 f2 h1
  | 1, g1, g2 =>
    cases Option.some.inj g1
    cases Option.some.inj g2
    exact eqd_ints e3 f3 h2
  | i + 2, g1, g2 => simp at g1
def SmallL (ll : List (List Int)) : Prop := GoodLot 1 3 4 ll ∨ GoodLot 2 2 4 ll ∨ GoodLot 3 2 3 ll
theorem gl_width {g m : Int} {n : Nat} {ll : List (List Int)} (h : GoodLot g m n ll) : width ll = g.toNat := by
  obtain ⟨h1, h2, h3⟩ := h
  cases ll with
  | nil => simp at h1
  | cons r rs => exact (h3 r List.mem_cons_self).1
theorem smallW_of {ll : List (List Int)} (h : SmallL ll) : flaw ll = none ∧ BL.SmallW (width ll) ll := by
  have key : ∀ {g m : Int} {k : Nat}, 1 ≤ g → g ≤ 3 → m ≤ 6 → k ≤ 5 → (k ≤ if g = 3 then 3 else 4) → (m ≤ if g = 1 then 3 else 2) → GoodLot g m k ll → flaw ll = none ∧ BL.SmallW (width ll) ll := fun {g m k} g1 g3 m6 k5 hk hm h => by
    have ef : flaw ll = none := good_flaw g1 g3 m6 ⟨h.1, by have := h.2.1; omega, h.2.2⟩
    have hok := flaw_ok ef
    have hw : (width ll : Int) = g := by
      rw [gl_width h]
      omega
    refine ⟨ef, by omega, by omega, ?_, flaw_kd ef, fun r hr n hn => ?_⟩
    · have := h.2.1
      have c : g = 1 ∨ g = 2 ∨ g = 3 := by omega
      rcases c with rfl | rfl | rfl
      · rw [if_neg (by omega)]; have : k ≤ 4 := hk; omega
      · rw [if_neg (by omega)]; have : k ≤ 4 := hk; omega
      · rw [if_pos (by omega)]; have : k ≤ 3 := hk; omega
    · have h1 := ((h.2.2 r hr).2.1 n hn).2
      have c : g = 1 ∨ g = 2 ∨ g = 3 := by omega
      rcases c with rfl | rfl | rfl
      · rw [if_pos (by omega)]; have : m ≤ 3 := hm; omega
      · rw [if_neg (by omega)]; have : m ≤ 2 := hm; omega
      · rw [if_neg (by omega)]; have : m ≤ 2 := hm; omega
  rcases h with h | h | h
  · exact key (by decide) (by decide) (by decide) (by decide) (by decide) (by decide) h
  · exact key (by decide) (by decide) (by decide) (by decide) (by decide) (by decide) h
  · exact key (by decide) (by decide) (by decide) (by decide) (by decide) (by decide) h
theorem small_len {ll : List (List Int)} (h : SmallL ll) : 1 ≤ ll.length ∧ ll.length ≤ 4 := by
  rcases h with h | h | h <;> exact ⟨h.1, by have := h.2.1; omega⟩
/-! ### what a best load is -/
section
variable {ll : List (List Int)} {b ns x : List Int}
theorem lx_shift : ∀ {a b c : List Int}, a.length = b.length → a.length = c.length → lx a b → lx (subR a c 1) (subR b c 1)
  | x :: a, y :: b, z :: c, h1, h2, h => by
    rw [subR_cons, subR_cons]
    rcases h with h | ⟨e, h⟩
    · exact .inl (by omega)
    · exact .inr ⟨by omega, lx_shift (by simpa using h1) (by simpa using h2) h⟩
  | [], [], _, _, _, h => h.elim
  | [], _ :: _, _, h1, _, _ => by simp at h1
  | _ :: _, [], _, h1, _, _ => by simp at h1
  | _ :: _, _ :: _, [], _, h2, _ => by simp at h2
/-- a part of a best load is the best of its own bill -/
theorem sub_best {r b' : List Int} (I : IsBest ll b ns x) (hb : b'.length = b.length) (hr : r.length = ll.length + b.length) (lr : Ld (ll.length + b.length) (vec r)) (fr : BL.Fit (vec r) (vec x)) (er : Bv ll b.length (vec r) = vec b') : IsBest ll b' ns r := by
  refine ⟨by rw [hb]; exact hr, by rw [hb]; exact lr, by rw [hb]; exact er, fun y hy ey h => ?_⟩
  rw [hb] at hy ey h
  have ez : BL.sb (vec r) (BL.sb (vec r) (vec x)) = vec x := by
    funext i
    show vec r i - (vec r i - vec x i) = vec x i
    omega
  refine I.best (BL.sb y (BL.sb (vec r) (vec x))) ⟨fun i => ?_, fun i hi => ?_⟩ ?_ ?_
  · have := hy.1 i
    have := fr i
    show 0 ≤ y i - (vec r i - vec x i)
    omega
  · have := hy.2 i hi
    have := lr.2 i hi
    have := I.ld.2 i hi
    show y i - (vec r i - vec x i) = 0
    omega
  · rw [BL.Bv_sub, BL.Bv_sub, ey, er, I.bill]
    funext j
    show vec b' j - (vec b' j - vec b j) = vec b j
    omega
  · have := lx_shift (c := BL.rkv ll.length b.length (vec ns) (BL.sb (vec r) (vec x))) (by rw [BL.rkv_len, BL.rkv_len]) (by rw [BL.rkv_len, BL.rkv_len]) h
    rw [← BL.rkv_sub, ← BL.rkv_sub, ez] at this
    exact this
theorem best_one {y : List Int} (I : IsBest ll b ns x) (J : IsBest ll b ns y) : x = y := by
  refine BL.vec_inj (I.len.trans J.len.symm) ?_
  rcases BL.lx_tri (r := BL.rkv ll.length b.length (vec ns) (vec x)) (s := BL.rkv ll.length b.length (vec ns) (vec y)) (by rw [BL.rkv_len, BL.rkv_len]) with h | h | h
  · exact absurd h (J.best _ I.ld I.bill)
  · exact BL.rkv_inj I.ld J.ld h
  · exact absurd h (I.best _ J.ld J.bill)
theorem lb_cong {j : Nat} : ∀ {l : List (List Int)} {u v : BL.Vec}, (∀ i, i < l.length → u i = v i) → Lb l u j = Lb l v j
  | [], _, _, _ => rfl
  | h :: t, u, v, huv => by
    show u 0 * h.getD j 0 + Lb t (BL.sh u) j = v 0 * h.getD j 0 + Lb t (BL.sh v) j
    rw [huv 0 (by simp), lb_cong (u := BL.sh u) (v := BL.sh v) fun i hi => huv (i + 1) (by simpa using hi)]
theorem sit_bill {ws : List Int} (ef : flaw ll = none) (eo : okWish ll.length ws = true) (hbl : b.length = width ll) (hb : ∀ z ∈ b, 0 ≤ z ∧ z < G30) : St1 ll b (numI ll.length ws) := by
  have hok := flaw_ok ef
  have e30 : G30 = 1000000000000000000000000000000 := rfl
  refine ⟨by rw [hbl]; exact flaw_kd ef, fun i => ?_, ?_, fun j => BL.getD_nn (fun z hz => (hb z hz).1) j⟩
  · unfold BL.vec
    rw [List.getD_eq_getElem?_getD]
    cases e : (numI ll.length ws)[i]? with
    | none => decide
    | some z => exact numI_in eo z (List.mem_of_getElem? e)
  · have e : BL.sm b.length (vec b) = b.sum := BL.sm_getD rfl
    rw [e]
    rw [← hbl] at hok
    match b, hb, hok with
    | [x], hb, _ =>
      have := hb x List.mem_cons_self
      have es : ([x] : List Int).sum = x := by simp
      omega
    | [x, y], hb, _ =>
      have := hb x List.mem_cons_self
      have := hb y (List.mem_cons_of_mem _ List.mem_cons_self)
      have es : ([x, y] : List Int).sum = x + y := by simp
      omega
    | [x, y, z], hb, _ =>
      have := hb x List.mem_cons_self
      have := hb y (List.mem_cons_of_mem _ List.mem_cons_self)
      have := hb z (List.mem_cons_of_mem _ (List.mem_cons_of_mem _ List.mem_cons_self))
      have es : ([x, y, z] : List Int).sum = x + (y + z) := by simp
      omega
    | [], _, hok => simp at hok
    | _ :: _ :: _ :: _ :: _, _, hok => simp at hok
end
theorem row_shaped (r : List Int) : SeqAt.shaped (.tuple (r.map .int)) = true := by
  have h1 : PyData.canLayAll0 (r.map .int) = true := by
    induction r with
    | nil => rfl
    | cons x r ih => rw [List.map_cons, PyData.canLayAll0, ih]; rfl
  unfold SeqAt.shaped
  rw [PyData.canLay0, h1, Bool.true_and, row_depth]
  rfl
/-- two rows that are one -/
theorem ne_rows {K : PySem.W.Frag} {H : Hp} {y z : Addr} {r s : List Int} {Q : VK} (h1 : IntsAt H y r) (h2 : IntsAt H z s) (e : r = s) (k : Q (.bl false) H) : rNeD K (.ref y) (.ref z) H Q := by
  refine ⟨.tuple (r.map .int), .tuple (s.map .int), dq_row h1, dq_row h2, row_shaped r, row_shaped s, ?_⟩
  rw [dq_eqv, decide_eq_true e]
  exact k
theorem wrong_of {ll : List (List Int)} {b : List Int} (hbl : b.length = width ll) (hbb : ∀ z ∈ b, 0 ≤ z ∧ z < G30) : wrong (width ll : Nat) b = none := wrong_none (by rw [hbl]) fun j z hj hz => by
  have := hbb z (List.mem_of_getElem? hz)
  unfold inB
  exact decide_eq_true this
/-- best_load asked of a good bill -/
theorem bl_ask {K : PySem.W.Frag} {C CB CW : Addr} {H : Hp} {p bl v : Addr} {as : List Addr} {ll : List (List Int)} {b ws : List Int} {Q : VK} {E : XK} (hR : RowsAt H p as ll) (ef : flaw ll = none) (hB : IntsAt H bl b) (hbl : b.length = width ll) (hbb : ∀ z ∈ b, 0 ≤ z ∧ z < G30) (hW : IT K H v ws) (eo : okWish ll.length ws = true) (hwz : ws.length ≤ 100) (hF : ∃ D, Few ll b D)
    (q : ∀ H' z x, Same H H' → IsBest ll b (numI ll.length ws) x → LdAt H' z (x.take ll.length, x.drop ll.length) → Q (.ref z) H') : spBestLoad K C CB CW [.ref p, .ref bl, .ref v] H Q E := by
  have hok := flaw_ok ef
  have ew := wrong_of hbl hbb
  exact ⟨p, bl, v, as, ll, b, ws, rfl, ⟨hR, by omega, fun r hr => by have := (flaw_rows ef r hr).1; omega⟩, hB, by omega, hW, hwz, (fun k hk => by rw [ef] at hk; cases hk), (fun _ hw => absurd ew hw), (fun _ _ ho => by rw [eo] at ho; cases ho), fun _ _ _ => ⟨sit_bill ef eo hbl hbb, hF, q⟩⟩
theorem scSm : FnScope ["_law_feed_here", "_law_how"] ["_law_feed_here"] (defScope sSmall) := ⟨rfl, rfl, rfl, by decide +kernel, rfl, by decide +kernel, by decide +kernel⟩
section
variable {P : Program} {w : World} {K : PySem.W.Frag} {mg : Str → Option Value} {base : Heap}
def spSmallX : Sp := fun vs H Q _ => ∃ (f c : Addr), vs = [.ref f] ∧ FeedAt c H f ∧
  ∀ H' p ll, Kp f H H' → FeedAt c H' f → LotAt H' p ll → SmallL ll → Q (.ref p) H'
theorem ok_smallX {f : Addr} {fd : FuncData} (F : Fun K "_law_small_lot" "_law_small_lot" sSmall f fd) (CD : Cal P w K mg base CX0 1 "_law_draw" ["_law_feed_here", "_law_many"] spDraw) (CL : Cal P w K mg base CX0 3 "_law_lot" ["_law_feed_here", "_law_goods", "_law_kinds", "_law_most"] spLot) : FnOk P w K mg base CX0 4 f fd ["_law_feed_here"] spSmallX := by
  obtain ⟨fD, fdD, GD, gD, kD, bD⟩ := CD.ex
  obtain ⟨fL, fdL, GL, gL, kL, bL⟩ := CL.ex
  refine F.ok scSm (fun vs H Q E h => ?_) (fun cdv A outer s H vs Q E hr h => ?_)
  · obtain ⟨a, c, rfl, _⟩ := h
    rfl
  · obtain ⟨a, c, rfl, Fd, q⟩ := h
    refine ⟨_, pss_cons (ps_set (i := 1) scSm.nd rfl (.inl rfl) (pe_call GD (hr.mono (by decide)) (by rfl) gD kD bD .nil pass0 (pa_cons (pv 0) (pa_cons pe_int pa_nil))))
      (pss_cons (ps_if (pt_cmpR op_lt (pv 1) pe_int (nomark _)) (pss_one (ps_ret (pe_call GL hr (by rfl) gL kL bL .nil pass0 (pa_cons (pv 0) (pa_cons pe_int (pa_cons pe_int (pa_cons pe_int pa_nil))))))) pss_nil)
      (pss_cons (ps_if (pt_cmpR op_lt (pv 1) pe_int (nomark _)) (pss_one (ps_ret (pe_call GL hr (by rfl) gL kL bL .nil pass0 (pa_cons (pv 0) (pa_cons pe_int (pa_cons pe_int (pa_cons pe_int pa_nil))))))) pss_nil)
      (pss_one (ps_ret (pe_call GL hr (by rfl) gL kL bL .nil pass0 (pa_cons (pv 0) (pa_cons pe_int (pa_cons pe_int (pa_cons pe_int pa_nil)))))))))
      , ?_⟩
    refine ⟨.ref a, rfl, a, c, 5, rfl, by decide, by decide, Fd, fun d H1 d0 d1 k1 F1 => ?_⟩
    refine ⟨.int d, rfl, d, 2, rfl, rfl, _, rfl, ite2 (fun _ => ?_) (fun _ => ?_)⟩
    · exact ⟨.ref a, rfl, a, c, 1, 4, 3, rfl, F1, by decide, by decide, by decide, by decide, by decide, by decide, fun H' p ll k2 F2 _ hL gl => q H' p ll (k1.trans k2) F2 hL (.inl gl)⟩
    refine ⟨.int d, rfl, d, 4, rfl, rfl, _, rfl, ite2 (fun _ => ?_) (fun _ => ?_)⟩
    · exact ⟨.ref a, rfl, a, c, 2, 4, 2, rfl, F1, by decide, by decide, by decide, by decide, by decide, by decide, fun H' p ll k2 F2 _ hL gl => q H' p ll (k1.trans k2) F2 hL (.inr (.inl gl))⟩
    · exact ⟨.ref a, rfl, a, c, 3, 3, 2, rfl, F1, by decide, by decide, by decide, by decide, by decide, by decide, fun H' p ll k2 F2 _ hL gl => q H' p ll (k1.trans k2) F2 hL (.inr (.inr gl))⟩
end
theorem scGreat : FnScope ["_law_feed_here", "_law_size"] ["_law_feed_here"] (defScope sGreat) := ⟨rfl, rfl, rfl, by decide +kernel, rfl, by decide +kernel, by decide +kernel⟩
section
variable {P : Program} {w : World} {K : PySem.W.Frag} {mg : Str → Option Value} {base : Heap}
def spGreat : Sp := fun vs H Q _ => ∃ (f c : Addr), vs = [.ref f] ∧ FeedAt c H f ∧ ∀ d H', 0 ≤ d → d < 100000000000000000000000000000 → Kp f H H' → FeedAt c H' f → Q (.int d) H'
theorem ok_great {f : Addr} {fd : FuncData} (F : Fun K "_law_great" "_law_great" sGreat f fd) (CD : Cal P w K mg base CX0 1 "_law_draw" ["_law_feed_here", "_law_many"] spDraw) (CP : Cal P w K mg base CX0 2 "_law_pick" ["_law_feed_here", "_law_row"] spPick) :
    FnOk P w K mg base CX0 3 f fd ["_law_feed_here"] spGreat := by
  obtain ⟨fD, fdD, GD, gD, kD, bD⟩ := CD.ex
  obtain ⟨fP, fdP, GP, gP, kP, bP⟩ := CP.ex
  refine F.ok scGreat (fun vs H Q E h => ?_) (fun cdv A outer s H vs Q E hr h => ?_)
  · obtain ⟨a, c, rfl, _⟩ := h
    rfl
  · obtain ⟨a, c, rfl, Fd, q⟩ := h
    refine ⟨_, pss_cons (ps_set (i := 1) scGreat.nd rfl (.inl rfl) (pe_call GP hr (by rfl) gP kP bP .nil pass0 (pa_cons (pv 0) (pa_cons (pe_lst (pa_cons pe_int (pa_cons pe_int (pa_cons (pe_op op_pow pe_int pe_int) (pa_cons (pe_op op_pow pe_int pe_int) (pa_cons (pe_op op_pow pe_int pe_int) pa_nil)))))) pa_nil))))
      (pss_one (ps_ret (pe_call GD (hr.mono (by decide)) (by rfl) gD kD bD .nil pass0 (pa_cons (pv 0) (pa_cons (pv 1) pa_nil))))), ?_⟩
    refine ⟨.ref a, rfl, 10, 6, rfl, rfl, ⟨by decide, by decide, by decide⟩, 10, 15, rfl, rfl, ⟨by decide, by decide, by decide⟩, 10, 29, rfl, rfl, ⟨by decide, by decide, by decide⟩, (by show 5 ≤ sizeLine; decide), fun l nl => ?_⟩
    refine ⟨a, c, l, _, rfl, upd_same, Fd.ne nl, by decide, by decide, Fd.new nl, fun v H2 hv k2 F2 => ?_⟩
    obtain ⟨z, rfl, z1, z2⟩ : ∃ z : Int, v = .int z ∧ 1 ≤ z ∧ z ≤ 100000000000000000000000000000 := by
      simp only [List.mem_cons, List.mem_nil_iff, or_false] at hv
      rcases hv with h | h | h | h | h <;> exact ⟨_, h, by decide, by decide⟩
    refine ⟨.ref a, rfl, .int z, rfl, a, c, z, rfl, z1, by omega, F2, fun d H3 d0 d1 k3 F3 => q d H3 d0 (by omega) ((Kp.new nl).trans (k2.trans k3)) F3⟩
end
theorem refAt {as : List Addr} {i : Nat} {x : V} (hx : (as.map V.ref)[i]? = some x) : ∃ c, as[i]? = some c ∧ x = V.ref c := by
  rw [List.getElem?_map] at hx
  cases e : as[i]? with
  | none => rw [e] at hx; cases hx
  | some n => rw [e] at hx; exact ⟨n, rfl, (Option.some.inj hx).symm⟩
def ldP (q : List Int × List Int) : PyData := .tuple [.tuple (q.1.map .int), .tuple (q.2.map .int)]
theorem dp_ldP {K : PySem.W.Frag} {H : Hp} {z : Addr} {q : List Int × List Int} (h : LdAt H z q) : Dp K H (.ref z) (ldP q) := by
  obtain ⟨c, l, e1, e2, e3⟩ := h
  exact .tup (SqT.of e1) (.cons (dq_row e2) (.cons (dq_row e3) .nil))
theorem ldP_eqv (q p : List Int × List Int) : PyData.eqv (ldP q) (ldP p) = decide (q = p) := by
  have h1 := dq_eqv q.1 p.1
  have h2 := dq_eqv q.2 p.2
  have e : PyData.eqv (ldP q) (ldP p) = (PyData.eqv (.tuple (q.1.map .int)) (.tuple (p.1.map .int)) && PyData.eqv (.tuple (q.2.map .int)) (.tuple (p.2.map .int))) := by
    unfold ldP
    rw [PyData.eqv, PyData.eqvAll, PyData.eqvAll, PyData.eqvAll, Bool.and_true]
  rw [e, h1, h2]
  by_cases c : q = p
  · subst c
    simp
  · rw [decide_eq_false c]
    by_cases c1 : q.1 = p.1
    · have c2 : q.2 ≠ p.2 := fun z => c (Prod.ext c1 z)
      rw [decide_eq_false c2, Bool.and_false]
    · rw [decide_eq_false c1, Bool.false_and]
end HL

set_option pp.maxSteps 3000
namespace HL
open PySem PySem.Spec PyProof.Rows L2
open C8 (pss_cut)
open BL (vec Lb Bv Ld muv St1 RowOk)
abbrev cPk : Stmt := topS 52
abbrev sShortInit : Stmt := inClass (topS 6) 0
abbrev sEnough : Stmt := topS 51
/-! ### a picker in the heap -/
abbrev Stand := List Int × List Int × List Int
def pkF (lo wi s p f : Addr) (ob : V) : List (Str × V) := [("own_lot", .ref lo), ("own_wish", .ref wi), ("stand", .ref s), ("past", .ref p), ("future", .ref f), ("own_betterings", ob)]
section
variable {lo wi s p f : Addr} {ob : V}
theorem lk_ne {a b : Str} {v : V} {l : List (Str × V)} (h : (a == b) = false) : ((b, v) :: l).lookup a = l.lookup a := by rw [List.lookup_cons, h]
theorem pk_lot : (pkF lo wi s p f ob).lookup ("own_lot" : Str) = some (.ref lo) := List.lookup_cons_self
theorem pk_wish : (pkF lo wi s p f ob).lookup ("own_wish" : Str) = some (.ref wi) := (lk_ne (by decide +kernel)).trans List.lookup_cons_self
theorem pk_stand : (pkF lo wi s p f ob).lookup ("stand" : Str) = some (.ref s) := (lk_ne (by decide +kernel)).trans ((lk_ne (by decide +kernel)).trans List.lookup_cons_self)
theorem pk_past : (pkF lo wi s p f ob).lookup ("past" : Str) = some (.ref p) := (lk_ne (by decide +kernel)).trans ((lk_ne (by decide +kernel)).trans ((lk_ne (by decide +kernel)).trans List.lookup_cons_self))
theorem pk_fut : (pkF lo wi s p f ob).lookup ("future" : Str) = some (.ref f) := (lk_ne (by decide +kernel)).trans ((lk_ne (by decide +kernel)).trans ((lk_ne (by decide +kernel)).trans ((lk_ne (by decide +kernel)).trans List.lookup_cons_self)))
theorem pk_ob : (pkF lo wi s p f ob).lookup ("own_betterings" : Str) = some ob := (lk_ne (by decide +kernel)).trans ((lk_ne (by decide +kernel)).trans ((lk_ne (by decide +kernel)).trans ((lk_ne (by decide +kernel)).trans ((lk_ne (by decide +kernel)).trans List.lookup_cons_self))))
def ownN : List Str := ["own_lot", "own_wish", "stand", "past", "future", "own_betterings"]
theorem pk_none {m : Str} (h : ownN.all (fun x => !(m == x)) = true) : (pkF lo wi s p f ob).lookup m = none := by
  unfold ownN at h
  simp only [List.all_cons, List.all_nil, Bool.and_eq_true, Bool.not_eq_true'] at h
  obtain ⟨h1, h2, h3, h4, h5, h6, _⟩ := h
  exact (lk_ne h1).trans ((lk_ne h2).trans ((lk_ne h3).trans ((lk_ne h4).trans ((lk_ne h5).trans ((lk_ne h6).trans rfl)))))
theorem pt_ne {a b : Str} {v w : V} {l : List (Str × V)} (h : ¬ b = a) : putF a v ((b, w) :: l) = (b, w) :: putF a v l := by
  show (if b = a then _ else _) = _
  rw [if_neg h]
theorem pt_eq {a : Str} {v w : V} {l : List (Str × V)} : putF a v ((a, w) :: l) = (a, v) :: l := by
  show (if a = a then _ else _) = _
  rw [if_pos rfl]
theorem put_stand {s' : Addr} : putF ("stand" : Str) (.ref s') (pkF lo wi s p f ob) = pkF lo wi s' p f ob := by
  unfold pkF
  rw [pt_ne (by decide +kernel), pt_ne (by decide +kernel), pt_eq]
theorem put_past {s' : Addr} : putF ("past" : Str) (.ref s') (pkF lo wi s p f ob) = pkF lo wi s s' f ob := by
  unfold pkF
  rw [pt_ne (by decide +kernel), pt_ne (by decide +kernel), pt_ne (by decide +kernel), pt_eq]
theorem put_fut {s' : Addr} : putF ("future" : Str) (.ref s') (pkF lo wi s p f ob) = pkF lo wi s p s' ob := by
  unfold pkF
  rw [pt_ne (by decide +kernel), pt_ne (by decide +kernel), pt_ne (by decide +kernel), pt_ne (by decide +kernel), pt_eq]
theorem put_ob {v : V} : putF ("own_betterings" : Str) v (pkF lo wi s p f ob) = pkF lo wi s p f v := by
  unfold pkF
  rw [pt_ne (by decide +kernel), pt_ne (by decide +kernel), pt_ne (by decide +kernel), pt_ne (by decide +kernel), pt_ne (by decide +kernel), pt_eq]
theorem pkf2 {v w : V} : putF ("own_wish" : Str) w [("own_lot", v)] = ([("own_lot", v), ("own_wish", w)] : List (Str × V)) := by rw [pt_ne (by decide +kernel)]; rfl
theorem pkf3 {v w x : V} : putF ("stand" : Str) x [("own_lot", v), ("own_wish", w)] = ([("own_lot", v), ("own_wish", w), ("stand", x)] : List (Str × V)) := by rw [pt_ne (by decide +kernel), pt_ne (by decide +kernel)]; rfl
theorem pkf4 {v w x y : V} : putF ("past" : Str) y [("own_lot", v), ("own_wish", w), ("stand", x)] = ([("own_lot", v), ("own_wish", w), ("stand", x), ("past", y)] : List (Str × V)) := by rw [pt_ne (by decide +kernel), pt_ne (by decide +kernel), pt_ne (by decide +kernel)]; rfl
theorem pkf5 {v w x y z : V} : putF ("future" : Str) z [("own_lot", v), ("own_wish", w), ("stand", x), ("past", y)] = ([("own_lot", v), ("own_wish", w), ("stand", x), ("past", y), ("future", z)] : List (Str × V)) := by rw [pt_ne (by decide +kernel), pt_ne (by decide +kernel), pt_ne (by decide +kernel), pt_ne (by decide +kernel)]; rfl
theorem pkf6 {v w x y z u : V} : putF ("own_betterings" : Str) u [("own_lot", v), ("own_wish", w), ("stand", x), ("past", y), ("future", z)] = ([("own_lot", v), ("own_wish", w), ("stand", x), ("past", y), ("future", z), ("own_betterings", u)] : List (Str × V)) := by rw [pt_ne (by decide +kernel), pt_ne (by decide +kernel), pt_ne (by decide +kernel), pt_ne (by decide +kernel), pt_ne (by decide +kernel)]; rfl
end
/-- all tuples stand -/
def KT (H H' : Hp) : Prop := ∀ a xs, H a = some (.tup xs) → H' a = some (.tup xs)
/-- all stands but at A -/
def Kx (A : List Addr) (H H' : Hp) : Prop := ∀ a o, H a = some o → a ∉ A → H' a = some o
theorem KT.refl {H : Hp} : KT H H := fun _ _ e => e
theorem KT.trans {H H1 H2 : Hp} (h : KT H H1) (g : KT H1 H2) : KT H H2 := fun a xs e => g a xs (h a xs e)
theorem _root_.L2.Same.kt {H H' : Hp} (s : Same H H') : KT H H' := fun a xs e => s _ _ e
theorem KT.put {H : Hp} {l : Addr} {xs ys : List V} (h : H l = some (.lst xs)) : KT H (upd H l (.lst ys)) := fun a zs e => by rw [upd_ne (ne_of e h (fun z => by cases z))]; exact e
theorem KT.ins {H : Hp} {l C dx : Addr} {xs ys : List (Str × V)} (h : H l = some (.ins C dx xs)) : KT H (upd H l (.ins C dx ys)) := fun a zs e => by rw [upd_ne (ne_of e h (fun z => by cases z))]; exact e
theorem _root_.L2.Same.kx {A : List Addr} {H H' : Hp} (s : Same H H') : Kx A H H' := fun a o e _ => s _ _ e
theorem Kx.trans {A : List Addr} {H H1 H2 : Hp} (h : Kx A H H1) (g : Kx A H1 H2) : Kx A H H2 := fun a o e n => g a o (h a o e n) n
theorem Kx.mono {A B : List Addr} {H H' : Hp} (h : Kx A H H') (m : ∀ a ∈ A, a ∈ B) : Kx B H H' := fun a o e n => h a o e fun z => n (m a z)
theorem Kx.put {A : List Addr} {H : Hp} {l : Addr} {o : HO} (h : l ∈ A) : Kx A H (upd H l o) := fun a o' e n => by rw [upd_ne (fun z => n (by rw [z]; exact h))]; exact e
theorem Kx.new {A : List Addr} {H H0 : Hp} {l : Addr} {o : HO} (k : Kx A H0 H) (h : H0 l = none) : Kx A H0 (upd H l o) := fun a o' e n => by rw [upd_ne (fun z => by rw [z, h] at e; cases e)]; exact k a o' e n
theorem ints_kt {H H' : Hp} {a : Addr} {xs : List Int} (h : IntsAt H a xs) (k : KT H H') : IntsAt H' a xs := k _ _ h
def StAt (H : Hp) (a : Addr) (t : Stand) : Prop := ∃ b c l : Addr, H a = some (.tup [.ref b, .ref c, .ref l]) ∧ IntsAt H b t.1 ∧ IntsAt H c t.2.1 ∧ IntsAt H l t.2.2
theorem StAt.kt {H H' : Hp} {a : Addr} {t : Stand} (h : StAt H a t) (k : KT H H') : StAt H' a t := by
  obtain ⟨b, c, l, h1, h2, h3, h4⟩ := h
  exact ⟨b, c, l, k _ _ h1, ints_kt h2 k, ints_kt h3 k, ints_kt h4 k⟩
def StsAt (H : Hp) (as : List Addr) (ts : List Stand) : Prop := as.length = ts.length ∧ ∀ (i : Nat) (a : Addr) (t : Stand), as[i]? = some a → ts[i]? = some t → StAt H a t
theorem StsAt.kt {H H' : Hp} {as : List Addr} {ts : List Stand} (h : StsAt H as ts) (k : KT H H') : StsAt H' as ts := ⟨h.1, fun i a t e1 e2 => (h.2 i a t e1 e2).kt k⟩
theorem StsAt.nil {H : Hp} : StsAt H [] [] := ⟨rfl, fun i a t e => by simp at e⟩
theorem StsAt.more {H : Hp} {as : List Addr} {ts : List Stand} {a : Addr} {t : Stand} (h : StsAt H as ts) (x : StAt H a t) : StsAt H (as ++ [a]) (ts ++ [t]) := by
  refine ⟨by rw [List.length_append, List.length_append, h.1]; rfl, fun i a' t' e1 e2 => ?_⟩
  by_cases c : i < as.length
  · rw [List.getElem?_append_left c] at e1
    rw [List.getElem?_append_left (by rw [← h.1]; exact c)] at e2
    exact h.2 i a' t' e1 e2
  · rw [List.getElem?_append_right (by omega)] at e1
    rw [List.getElem?_append_right (by rw [← h.1]; omega)] at e2
    rw [← h.1] at e2
    have hi : i - as.length = 0 := by
      have := (List.getElem?_eq_some_iff.mp e1).1
      rw [List.length_singleton] at this
      omega
    rw [hi] at e1 e2
    cases e1
    cases e2
    exact x
theorem StsAt.init {H : Hp} {as : List Addr} {ts : List Stand} (h : StsAt H as ts) : StsAt H as.dropLast ts.dropLast := by
  refine ⟨by rw [List.length_dropLast, List.length_dropLast, h.1], fun i a t e1 e2 => ?_⟩
  rw [List.getElem?_dropLast] at e1 e2
  by_cases c : i < as.length - 1
  · rw [if_pos c] at e1
    rw [if_pos (by rw [← h.1]; exact c)] at e2
    exact h.2 i a t e1 e2
  · rw [if_neg c] at e1
    cases e1
/-- what a picker holds -/
structure Pk where
  lo : Addr
  wi : Addr
  st : Stand
  past : List Stand
  fut : List Stand
  ob : V
structure PkAt (C : Addr) (H : Hp) (p : Addr) (k : Pk) (pA fA : Addr) : Prop where
  ob : ∃ dx s, H p = some (.ins C dx (pkF k.lo k.wi s pA fA k.ob)) ∧ StAt H s k.st
  pa : ∃ as, H pA = some (.lst (as.map V.ref)) ∧ StsAt H as k.past
  fu : ∃ as, H fA = some (.lst (as.map V.ref)) ∧ StsAt H as k.fut
  ne : pA ≠ fA
theorem PkAt.kx {C p pA fA : Addr} {H H' : Hp} {k : Pk} {A : List Addr} (h : PkAt C H p k pA fA) (x : Kx A H H') (t : KT H H') (n1 : p ∉ A) (n2 : pA ∉ A) (n3 : fA ∉ A) : PkAt C H' p k pA fA := by
  obtain ⟨⟨dx, s, h1, h2⟩, ⟨as, h3, h4⟩, ⟨bs, h5, h6⟩, h7⟩ := h
  exact ⟨⟨dx, s, x _ _ h1 n1, h2.kt t⟩, ⟨as, x _ _ h3 n2, h4.kt t⟩, ⟨bs, x _ _ h5 n3, h6.kt t⟩, h7⟩
theorem PkAt.same {C p pA fA : Addr} {H H' : Hp} {k : Pk} (h : PkAt C H p k pA fA) (s : Same H H') : PkAt C H' p k pA fA := h.kx (A := []) s.kx s.kt (by simp) (by simp) (by simp)
theorem PkAt.pPA {C p pA fA : Addr} {H : Hp} {k : Pk} (h : PkAt C H p k pA fA) : pA ≠ p := by
  obtain ⟨⟨dx, s, h1, h2⟩, ⟨as, h3, h4⟩, _, _⟩ := h
  exact ne_of h3 h1 (fun z => by cases z)
theorem PkAt.pFA {C p pA fA : Addr} {H : Hp} {k : Pk} (h : PkAt C H p k pA fA) : fA ≠ p := by
  obtain ⟨⟨dx, s, h1, h2⟩, _, ⟨as, h3, h4⟩, _⟩ := h
  exact ne_of h3 h1 (fun z => by cases z)
/-- the class as it stands -/
structure PkTxt (K : PySem.W.Frag) (mg : Str → Option Value) (C : Addr) : Prop where
  cl : Cls K C
  nL : NoAttr K C "own_lot"
  nW : NoAttr K C "own_wish"
  nS : NoAttr K C "stand"
  nP : NoAttr K C "past"
  nF : NoAttr K C "future"
  nB : NoAttr K C "own_betterings"
  mgC : mg "Picker" = some (.ref C)
/-- a method and its promise -/
def MCal (P : Program) (w : World) (K : PySem.W.Frag) (mg : Str → Option Value) (base : Heap) (CX : CXT) (k : Nat) (C : Addr) (m : Str) (ps : List Str) (sp : Sp) : Prop := ∃ (f : Addr) (fd : FuncData), FnOk P w K mg base CX k f fd ps sp ∧ Meth K C m f ∧ Binds K fd ps []
def negI (xs : List Int) : Option Nat := xs.findIdx? fun n => decide (n < 0)
theorem neg_none {xs : List Int} : negI xs = none ↔ ∀ n ∈ xs, 0 ≤ n := by
  unfold negI
  rw [List.findIdx?_eq_none_iff]
  constructor
  · intro h n hn
    have := of_decide_eq_false (h n hn)
    omega
  · intro h n hn
    have := h n hn
    exact decide_eq_false (by omega)
theorem neg_at {xs : List Int} {i : Nat} {n : Int} (h : xs[i]? = some n) (hn : n < 0) (ha : ∀ (j : Nat) (z : Int), j < i → xs[j]? = some z → ¬ z < 0) : negI xs = some i := by
  obtain ⟨hi, he⟩ := List.getElem?_eq_some_iff.mp h
  refine List.findIdx?_eq_some_iff_getElem.mpr ⟨hi, by rw [he]; exact decide_eq_true hn, fun j hj => ?_⟩
  have := ha j xs[j] hj (List.getElem?_eq_getElem (by omega))
  rw [decide_eq_false this]
  decide
theorem scShI : FnScope ["self", "place"] ["self", "place"] (defScope sShortInit) := ⟨rfl, rfl, rfl, by decide +kernel, rfl, by decide +kernel, by decide +kernel⟩
theorem scEn : FnScope ["row", "place", "number"] ["row"] (defScope sEnough) := ⟨rfl, rfl, rfl, by decide +kernel, rfl, by decide +kernel, by decide +kernel⟩
abbrev sP (j : Nat) : Stmt := inClass cPk j
theorem scP1 {j : Nat} (h : FnScope ["self"] ["self"] (defScope (sP j))) : FnScope ["self"] ["self"] (defScope (sP j)) := h
section
variable {P : Program} {w : World} {K : PySem.W.Frag} {mg : Str → Option Value} {base : Heap}
theorem ok_shortInit {f : Addr} {fd : FuncData} {k : Nat} {C : Addr} (F : Fun K "__init__" "Short.__init__" sShortInit f fd) (T : Cls2 K C "place") : FnOk P w K mg base CX0 (k + 1) f fd ["self", "place"] (spInit2 C "place" "short") := by
  refine F.ok scShI (fun vs H Q E h => ?_) (fun cdv A outer s H vs Q E hr h => ?_)
  · obtain ⟨a, v, rfl, _⟩ := h
    rfl
  · obtain ⟨a, v, rfl, ha, q⟩ := h
    refine ⟨_, pss_cons (ps_ost (pv 0) pe_str) (pss_one (ps_ost (pv 0) (pv 1))), ?_⟩
    refine ⟨.ref a, rfl, a, C, rfl, T.ox, T.noW, .inl ⟨ha, fun dx nd ne => ?_⟩⟩
    refine ⟨v, rfl, .ref a, rfl, a, C, rfl, T.ox, T.noF, .inr ⟨dx, _, upd_same, ?_, (by show 1 ≤ 900; decide), q dx nd ne⟩⟩
    rw [upd_ne ne, upd_same]
def spEnough (C : Addr) : Sp := fun vs H Q E => ∃ (a : Addr) (xs : List Int), vs = [.ref a] ∧ IntsAt H a xs ∧ xs.length ≤ 100 ∧ (negI xs = none → ∀ H', Same H H' → Q .non H') ∧ ∀ i, negI xs = some i → Refd C "place" "short" (.int (i : Nat)) H E
theorem ok_enough {f : Addr} {fd : FuncData} {C : Addr} (F : Fun K "look_enough" "look_enough" sEnough f fd) (B : Bl mg) (T : BadTxt P w K mg base "Short" C "place" "short") :
    FnOk P w K mg base (L2.CX P w) 3 f fd ["row"] (spEnough C) := by
  obtain ⟨fI, fdI, iC, tI, GI, bI⟩ := T.ini
  refine F.okX scEn (fun vs H Q E h => ?_) (fun cdv A outer s H vs Q E hr h => ?_)
  · obtain ⟨a, xs, rfl, _⟩ := h
    rfl
  · obtain ⟨a, xs, rfl, hA, hz, q0, q1⟩ := h
    refine ⟨_, pss_one (ps_for (passes_of rfl) rfl (pi_enumT (by rfl) B.enumerate (pa_cons (pv 0) pa_nil)) (pg_tup rfl (pgs_cons (pg_name (i := 1) scEn.nd rfl (.inl rfl)) (pgs_cons (pg_name (i := 2) scEn.nd rfl (.inl rfl)) pgs_nil)))
        (pss_one (ps_if (pt_cmpR op_lt (pv 2) pe_int (nomark _)) (pss_one (ps_raise rfl (takes_of rfl rfl rfl rfl) (pmk_oex T.c2.ox iC tI GI hr bI .nil pass0 (by rfl) T.gC (pa_cons (pv 1) pa_nil)))) pss_nil))), ?_⟩
    refine ⟨.ref a, rfl, a, _, rfl, SqT.of hA, ?_⟩
    refine for_it (walk_enumT (K := K) (a := a) (xs := xs.map V.int)) (fun i σ H' => (∃ y1 y2, σ = [some (.ref a), y1, y2]) ∧ Same H H' ∧ ∀ (j : Nat) (z : Int), j < i → xs[j]? = some z → ¬ z < 0) ⟨⟨_, _, rfl⟩, Same.refl _, fun j z h => absurd h (Nat.not_lt_zero _)⟩ (fun i σ H' _ ⟨_, sm, _⟩ => SqT.of (hA.same sm)) ?_ ?_
    · rintro i x σ H1 H2 hi ⟨⟨y1, y2, rfl⟩, sm, ha⟩ hY
      obtain ⟨T0, x1, x2, rfl, nT, rfl, e1, e2⟩ := hY
      cases Option.some.inj e1
      rw [List.length_map] at hi
      have hx : xs[i]? = some xs[i] := List.getElem?_eq_getElem hi
      have ex2 : x2 = .int xs[i] := by
        have e2' : (xs.map V.int)[i]? = some x2 := e2
        rw [List.getElem?_map, hx] at e2'
        exact (Option.some.inj e2').symm
      subst ex2
      have sT := same_new (o := .tup [.int (i : Nat), .int xs[i]]) nT
      refine ⟨T0, _, rfl, SqT.of upd_same, rfl, _, _, rfl, _, _, rfl, rfl, ?_⟩
      refine ⟨_, rfl, _, _, rfl, rfl, _, rfl, ite2 (fun c => ?_) (fun c => ?_)⟩
      · refine ⟨.int (i : Nat), rfl, mk_refd ((q1 i (neg_at hx (of_decide_eq_true c) ha)).same (sm.trans sT))⟩
      · refine ⟨⟨_, _, rfl⟩, sm.trans sT, fun j z hj hz => ?_⟩
        by_cases cj : j = i
        · rw [cj, hx] at hz
          cases Option.some.inj hz
          exact fun y => c (decide_eq_true y)
        · exact ha j z (by omega) hz
    · rintro σ H1 ⟨⟨y1, y2, rfl⟩, sm, ha⟩
      rw [List.length_map] at ha
      refine q0 (neg_none.mpr fun n hn => ?_) _ sm
      obtain ⟨j, hj, e⟩ := List.mem_iff_getElem.mp hn
      have := ha j n hj (by rw [List.getElem?_eq_getElem hj, e])
      omega
/-! ### what it tells -/
def spBill (C : Addr) : Sp := fun vs H Q _ => ∃ (p : Addr) (k : Pk) (pA fA : Addr), vs = [.ref p] ∧ PkAt C H p k pA fA ∧ ∀ c, IntsAt H c k.st.1 → Q (.ref c) H
def spCnt (C : Addr) : Sp := fun vs H Q _ => ∃ (p : Addr) (k : Pk) (pA fA : Addr), vs = [.ref p] ∧ PkAt C H p k pA fA ∧ ∀ c, IntsAt H c k.st.2.1 → Q (.ref c) H
def spLoose (C : Addr) : Sp := fun vs H Q _ => ∃ (p : Addr) (k : Pk) (pA fA : Addr), vs = [.ref p] ∧ PkAt C H p k pA fA ∧ ∀ c, IntsAt H c k.st.2.2 → Q (.ref c) H
theorem scP3 : FnScope ["self"] ["self"] (defScope (sP 3)) := ⟨rfl, rfl, rfl, by decide +kernel, rfl, by decide +kernel, by decide +kernel⟩
theorem scP2 : FnScope ["self"] ["self"] (defScope (sP 2)) := ⟨rfl, rfl, rfl, by decide +kernel, rfl, by decide +kernel, by decide +kernel⟩
theorem scP4 : FnScope ["self"] ["self"] (defScope (sP 4)) := ⟨rfl, rfl, rfl, by decide +kernel, rfl, by decide +kernel, by decide +kernel⟩
theorem scP5 : FnScope ["self"] ["self"] (defScope (sP 5)) := ⟨rfl, rfl, rfl, by decide +kernel, rfl, by decide +kernel, by decide +kernel⟩
theorem ok_pBill {f C : Addr} {fd : FuncData} {n : Nat} (F : Fun K "bill" "Picker.bill" (sP 2) f fd) (T : PkTxt K mg C) : FnOk P w K mg base CX0 (n + 1) f fd ["self"] (spBill C) := by
  refine F.ok scP2 (fun vs H Q E h => ?_) (fun cdv A outer s H vs Q E hr h => ?_)
  · obtain ⟨p, k, pA, fA, rfl, _⟩ := h
    rfl
  · obtain ⟨p, k, pA, fA, rfl, hP, q⟩ := h
    obtain ⟨⟨dx, s, h1, b, c, l, h2, h3, h4, h5⟩, _⟩ := hP
    refine ⟨_, pss_one (ps_ret (pe_ix ix_tup (pe_fld (pv 0) rfl) pe_int (fun _ _ => rfl))), ?_⟩
    exact ⟨.ref p, rfl, p, C, dx, _, _, rfl, h1, T.cl, T.nS, pk_stand, s, _, 0, .ref b, rfl, rfl, SqT.of h2, atI_nat (j := 0) rfl, q b h3⟩
theorem ok_pCnt {f C : Addr} {fd : FuncData} {n : Nat} (F : Fun K "counts" "Picker.counts" (sP 4) f fd) (T : PkTxt K mg C) : FnOk P w K mg base CX0 (n + 1) f fd ["self"] (spCnt C) := by
  refine F.ok scP4 (fun vs H Q E h => ?_) (fun cdv A outer s H vs Q E hr h => ?_)
  · obtain ⟨p, k, pA, fA, rfl, _⟩ := h
    rfl
  · obtain ⟨p, k, pA, fA, rfl, hP, q⟩ := h
    obtain ⟨⟨dx, s, h1, b, c, l, h2, h3, h4, h5⟩, _⟩ := hP
    refine ⟨_, pss_one (ps_ret (pe_ix ix_tup (pe_fld (pv 0) rfl) pe_int (fun _ _ => rfl))), ?_⟩
    exact ⟨.ref p, rfl, p, C, dx, _, _, rfl, h1, T.cl, T.nS, pk_stand, s, _, 1, .ref c, rfl, rfl, SqT.of h2, atI_nat (j := 1) rfl, q c h4⟩
theorem ok_pLoose {f C : Addr} {fd : FuncData} {n : Nat} (F : Fun K "loose" "Picker.loose" (sP 5) f fd) (T : PkTxt K mg C) : FnOk P w K mg base CX0 (n + 1) f fd ["self"] (spLoose C) := by
  refine F.ok scP5 (fun vs H Q E h => ?_) (fun cdv A outer s H vs Q E hr h => ?_)
  · obtain ⟨p, k, pA, fA, rfl, _⟩ := h
    rfl
  · obtain ⟨p, k, pA, fA, rfl, hP, q⟩ := h
    obtain ⟨⟨dx, s, h1, b, c, l, h2, h3, h4, h5⟩, _⟩ := hP
    refine ⟨_, pss_one (ps_ret (pe_ix ix_tup (pe_fld (pv 0) rfl) pe_int (fun _ _ => rfl))), ?_⟩
    exact ⟨.ref p, rfl, p, C, dx, _, _, rfl, h1, T.cl, T.nS, pk_stand, s, _, 2, .ref l, rfl, rfl, SqT.of h2, atI_nat (j := 2) rfl, q l h5⟩
/-! ### a deed -/
theorem scGoT : FnScope ["self", "bill", "counts", "loose"] ["self", "bill", "counts", "loose"] (defScope (sP 6)) := ⟨rfl, rfl, rfl, by decide +kernel, rfl, by decide +kernel, by decide +kernel⟩
/-- behind a deed -/
def Gone (C p pA fA : Addr) (k : Pk) (t : Stand) (H : Hp) (Q : Hp → Prop) : Prop := ∀ H' fA', Kx [p, pA] H H' → KT H H' → H fA' = none → PkAt C H' p { k with st := t, past := k.past ++ [k.st], fut := [] } pA fA' → Q H'
theorem Gone.same {C p pA fA : Addr} {k : Pk} {t : Stand} {H H1 : Hp} {Q : Hp → Prop} (h : Gone C p pA fA k t H Q) (s : Same H H1) : Gone C p pA fA k t H1 Q := fun H' fA' x y n z => h H' fA' (s.kx.trans x) (s.kt.trans y) (s.free n) z
def spGo (C CS : Addr) : Sp := fun vs H Q E => ∃ (p b c l : Addr) (k : Pk) (pA fA : Addr) (xb xc xl : List Int), vs = [.ref p, .ref b, .ref c, .ref l] ∧ PkAt C H p k pA fA ∧ IntsAt H b xb ∧ IntsAt H c xc ∧ IntsAt H l xl ∧ xc.length ≤ 100 ∧ xl.length ≤ 100 ∧ k.past.length ≤ 100000 ∧
  (∀ i, negI xc = some i → Refd CS "place" "short" (.int (i : Nat)) H E) ∧ (negI xc = none → ∀ i, negI xl = some i → Refd CS "place" "short" (.int (i : Nat)) H E) ∧ (negI xc = none → negI xl = none → Gone C p pA fA k (xb, xc, xl) H (Q .non))
theorem ok_pGo {f C CS : Addr} {fd : FuncData} (F : Fun K "go_to" "Picker.go_to" (sP 6) f fd) (T : PkTxt K mg C) (CE : Cal P w K mg base (L2.CX P w) 3 "look_enough" ["row"] (spEnough CS)) : FnOk P w K mg base (L2.CX P w) 4 f fd ["self", "bill", "counts", "loose"] (spGo C CS) := by
  obtain ⟨fE, fdE, GE, gE, kE, bE⟩ := CE.ex
  refine F.okX scGoT (fun vs H Q E h => ?_) (fun cdv A outer s H vs Q E hr h => ?_)
  · obtain ⟨p, b, c, l, k, pA, fA, xb, xc, xl, rfl, _⟩ := h
    rfl
  · obtain ⟨p, b, c, l, k, pA, fA, xb, xc, xl, rfl, hP, hb, hc, hl, zc, zl, zp, q1, q2, q3⟩ := h
    refine ⟨_, pss_cons (ps_expr (pe_call GE (hr.mono (by decide)) (by rfl) gE kE bE .nil (passes_call (takes_of rfl rfl rfl rfl) (fun _ _ _ _ h => h)) (pa_cons (pv 2) pa_nil)))
      (pss_cons (ps_expr (pe_call GE (hr.mono (by decide)) (by rfl) gE kE bE .nil (passes_call (takes_of rfl rfl rfl rfl) (fun _ _ _ _ h => h)) (pa_cons (pv 3) pa_nil)))
      (pss_cons (ps_expr (pe_bm PySem.F.plainAttrs_list PySem.F.slot_list_append PySem.F.type_list_append mt_append (pe_fld (pv 0) rfl) (pa_cons (pe_fld (pv 0) rfl) pa_nil)))
      (pss_cons (ps_fld (pv 0) (pe_lst pa_nil) rfl)
      (pss_one (ps_fld (pv 0) (pe_tup (pa_cons (pv 1) (pa_cons (pv 2) (pa_cons (pv 3) pa_nil)))) rfl))))), ?_⟩
    refine ⟨.ref c, rfl, c, xc, rfl, hc, zc, fun n1 H1 s1 => ?_, q1⟩
    refine ⟨.ref l, rfl, l, xl, rfl, hl.same s1, zl, fun n2 H2 s2 => ?_, fun i hi => (q2 n1 i hi).same s1⟩
    have s12 := s1.trans s2
    have q := (q3 n1 n2).same s12
    have P2 := hP.same s12
    have hb2 := hb.same s12
    have hc2 := hc.same s12
    have hl2 := hl.same s12
    clear q1 q2 q3 hP hb hc hl
    generalize hst : k.st = kst
    obtain ⟨⟨dx, s, h1, h2⟩, ⟨as, h3, h4⟩, ⟨bs, h5, h6⟩, h7⟩ := P2
    have np : pA ≠ p := ne_of h3 h1 (fun z => by cases z)
    refine ⟨.ref p, rfl, p, C, dx, _, _, rfl, h1, T.cl, T.nP, pk_past, .inl ⟨rfl, _, SqL.of h3⟩, .ref p, rfl, p, C, dx, _, _, rfl, h1, T.cl, T.nS, pk_stand, pA, _, .ref s, rfl, rfl, h3, ?_, ?_⟩
    · rw [List.length_map, h4.1]
      exact Nat.lt_of_le_of_lt zp (show 100000 < sizeLine by decide)
    have t3 : KT H2 (upd H2 pA (.lst (as.map V.ref ++ [.ref s]))) := KT.put h3
    have x3 : Kx [p, pA] H2 (upd H2 pA (.lst (as.map V.ref ++ [.ref s]))) := Kx.put (by simp)
    have e3 : (upd H2 pA (.lst (as.map V.ref ++ [.ref s]))) pA = some (.lst ((as ++ [s]).map V.ref)) := by rw [upd_same, List.map_append]; rfl
    have o3 : (upd H2 pA (.lst (as.map V.ref ++ [.ref s]))) p = some (.ins C dx (pkF k.lo k.wi s pA fA k.ob)) := by rw [upd_ne (fun z => np z.symm)]; exact h1
    generalize upd H2 pA (.lst (as.map V.ref ++ [.ref s])) = H3 at t3 x3 e3 o3 ⊢
    refine ⟨Nat.zero_le _, fun fA' nf => ?_⟩
    have nf2 : H2 fA' = none := by
      cases e : H2 fA' with
      | none => rfl
      | some o =>
        have := x3 fA' o e (fun z => by
          rcases List.mem_cons.mp z with z | z
          · rw [z, o3] at nf; cases nf
          · rw [List.mem_singleton.mp z, e3] at nf; cases nf)
        rw [nf] at this
        cases this
    have np2 : fA' ≠ p := fun z => by rw [z, o3] at nf; cases nf
    have np3 : pA ≠ fA' := fun z => by rw [← z, e3] at nf; cases nf
    have s4 := same_new (o := .lst []) nf
    have o4 := s4 _ _ o3
    have e4 := s4 _ _ e3
    have f4 : (upd H3 fA' (.lst [])) fA' = some (.lst []) := upd_same
    have t4 := t3.trans s4.kt
    have x4 : Kx [p, pA] H2 (upd H3 fA' (.lst [])) := x3.trans s4.kx
    generalize upd H3 fA' (.lst []) = H4 at o4 e4 f4 t4 x4 ⊢
    refine ⟨.ref p, rfl, p, C, dx, _, rfl, o4, T.cl, T.nF, (by show 6 < 1000; decide), ?_⟩
    rw [put_fut]
    have t5 := t4.trans (KT.ins (ys := pkF k.lo k.wi s pA fA' k.ob) o4)
    have x5 := x4.trans (Kx.put (H := H4) (l := p) (o := .ins C dx (pkF k.lo k.wi s pA fA' k.ob)) (A := [p, pA]) (by simp))
    have o5 : (upd H4 p (.ins C dx (pkF k.lo k.wi s pA fA' k.ob))) p = some (.ins C dx (pkF k.lo k.wi s pA fA' k.ob)) := upd_same
    have e5 : (upd H4 p (.ins C dx (pkF k.lo k.wi s pA fA' k.ob))) pA = some (.lst ((as ++ [s]).map V.ref)) := by rw [upd_ne np]; exact e4
    have f5 : (upd H4 p (.ins C dx (pkF k.lo k.wi s pA fA' k.ob))) fA' = some (.lst []) := by rw [upd_ne np2]; exact f4
    generalize upd H4 p (.ins C dx (pkF k.lo k.wi s pA fA' k.ob)) = H5 at t5 x5 o5 e5 f5 ⊢
    refine ⟨.ref b, rfl, .ref c, rfl, .ref l, rfl, (by show 3 ≤ sizeLine; decide), fun s' ns => ?_⟩
    have s6 := same_new (o := .tup [.ref b, .ref c, .ref l]) ns
    have o6 := s6 _ _ o5
    have e6 := s6 _ _ e5
    have f6 := s6 _ _ f5
    have t6 := t5.trans s6.kt
    have x6 := x5.trans (s6.kx (A := [p, pA]))
    have u6 : (upd H5 s' (.tup [.ref b, .ref c, .ref l])) s' = some (.tup [.ref b, .ref c, .ref l]) := upd_same
    generalize upd H5 s' (.tup [.ref b, .ref c, .ref l]) = H6 at o6 e6 f6 t6 x6 u6 ⊢
    refine ⟨.ref p, rfl, p, C, dx, _, rfl, o6, T.cl, T.nS, (by show 6 < 1000; decide), ?_⟩
    rw [put_stand]
    have t7 := t6.trans (KT.ins (ys := pkF k.lo k.wi s' pA fA' k.ob) o6)
    have x7 := x6.trans (Kx.put (H := H6) (l := p) (o := .ins C dx (pkF k.lo k.wi s' pA fA' k.ob)) (A := [p, pA]) (by simp))
    refine q _ fA' x7 t7 nf2 ⟨⟨dx, s', upd_same, b, c, l, ?_, ints_kt hb2 t7, ints_kt hc2 t7, ints_kt hl2 t7⟩, ⟨as ++ [s], by rw [upd_ne np]; exact e6, (h4.kt t7).more (h2.kt t7)⟩, ⟨[], by rw [upd_ne np2]; exact f6, StsAt.nil⟩, np3⟩
    exact (KT.ins o6) _ _ u6
end
end HL

set_option pp.maxSteps 2000
namespace HL
open PySem PySem.Spec PyProof.Rows L2
open C8 (pss_cut)
open BL (vec Lb Bv Ld muv St1 RowOk)
/-! ### a lot, a wish and a bill of a picker -/
/-- what is known of the lot and the wish -/
structure LotW (K : PySem.W.Frag) (ll : List (List Int)) (ws : List Int) (H : Hp) (k : Pk) : Prop where
  R : ∃ as, RowsAt H k.lo as ll
  W : IT K H k.wi ws
theorem rows_kt {H H' : Hp} {as : List Addr} {ll : List (List Int)} (h : Rows H as ll) (k : KT H H') : Rows H' as ll := h.mono fun a xs e => k _ _ e
theorem rowsAt_kt {H H' : Hp} {p : Addr} {as : List Addr} {ll : List (List Int)} (h : RowsAt H p as ll) (k : KT H H') : RowsAt H' p as ll := ⟨k _ _ h.1, rows_kt h.2 k⟩
theorem ld_kt {H H' : Hp} {z : Addr} {q : List Int × List Int} (h : LdAt H z q) (k : KT H H') : LdAt H' z q := by
  obtain ⟨a, b, h1, h2, h3⟩ := h
  exact ⟨a, b, k _ _ h1, ints_kt h2 k, ints_kt h3 k⟩
/-- rows that are asked stand, whatever else is done -/
def KI (K : PySem.W.Frag) (H H' : Hp) : Prop := ∀ a ns, IT K H a ns → IT K H' a ns
theorem kx_lk {A : List Addr} {H H' : Hp} (x : Kx A H H') (hA : ∀ a ∈ A, ∀ o u, H a ≠ some (.frz o u)) (t : KT H H') {K : PySem.W.Frag} : KI K H H' := fun a ns h => by
  rcases h with (h | ⟨o, h⟩) | h
  · exact .inl (.inl (t _ _ h))
  · exact .inl (.inr ⟨o, x _ _ h fun z => hA a z _ _ h⟩)
  · exact .inr h
theorem PkAt.nofrz {C p pA fA : Addr} {H : Hp} {k : Pk} (h : PkAt C H p k pA fA) : ∀ a ∈ [p, pA, fA], ∀ o u, H a ≠ some (.frz o u) := fun a ha o u e => by
  obtain ⟨⟨dx, s, h1, h2⟩, ⟨as, h3, h4⟩, ⟨bs, h5, h6⟩, _⟩ := h
  rcases List.mem_cons.mp ha with rfl | ha
  · rw [h1] at e; cases e
  rcases List.mem_cons.mp ha with rfl | ha
  · rw [h3] at e; cases e
  · rw [List.mem_singleton.mp ha, h5] at e; cases e
theorem PkAt.nofrz2 {C p pA fA : Addr} {H : Hp} {k : Pk} (h : PkAt C H p k pA fA) : ∀ a ∈ [p, pA], ∀ o u, H a ≠ some (.frz o u) := fun a ha => h.nofrz a (by
  rcases List.mem_cons.mp ha with rfl | ha
  · simp
  · rw [List.mem_singleton.mp ha]; simp)
theorem PkAt.nofrz1 {C p pA fA : Addr} {H : Hp} {k : Pk} (h : PkAt C H p k pA fA) : ∀ a ∈ [p], ∀ o u, H a ≠ some (.frz o u) := fun a ha => h.nofrz a (by rw [List.mem_singleton.mp ha]; simp)
def setI (xs : List Int) (i : Nat) (t : Int) : List Int := xs.take i ++ [xs.getD i 0 + t] ++ xs.drop (i + 1)
theorem setI_len {xs : List Int} {i : Nat} {t : Int} (h : i < xs.length) : (setI xs i t).length = xs.length := by
  unfold setI
  simp only [List.length_append, List.length_take, List.length_drop, List.length_singleton]
  omega
theorem vec_setI {xs : List Int} {i j : Nat} {t : Int} (h : i < xs.length) : vec (setI xs i t) j = if j = i then vec xs i + t else vec xs j := by
  have e : setI xs i t = xs.set i (xs.getD i 0 + t) := by
    unfold setI
    rw [List.set_eq_take_append_cons_drop, if_pos h, List.append_assoc]
    rfl
  unfold BL.vec
  rw [e, List.getD_eq_getElem?_getD, List.getElem?_set]
  by_cases c : j = i
  · rw [if_pos c, if_pos c.symm, if_pos (by omega)]
    rfl
  · rw [if_neg c, if_neg (fun z => c z.symm), List.getD_eq_getElem?_getD]
theorem scPBs : FnScope ["self"] ["self"] (defScope (sP 13)) := ⟨rfl, rfl, rfl, by decide +kernel, rfl, by decide +kernel, by decide +kernel⟩
theorem scIB : FnScope ["self"] ["self"] (defScope (sP 19)) := ⟨rfl, rfl, rfl, by decide +kernel, rfl, by decide +kernel, by decide +kernel⟩
theorem scLf : FnScope ["self"] ["self"] (defScope (sP 20)) := ⟨rfl, rfl, rfl, by decide +kernel, rfl, by decide +kernel, by decide +kernel⟩
theorem scIn : FnScope ["self", "lot", "bill", "wish"] ["self", "lot", "bill", "wish"] (defScope (sP 0)) := ⟨rfl, rfl, rfl, by decide +kernel, rfl, by decide +kernel, by decide +kernel⟩
theorem slice_toK {K : PySem.W.Frag} {H : Hp} {a : Addr} {xs : List Int} {n : Nat} {Q : VK} (ha : IntsAt H a xs) (q : ∀ p H', Same H H' → IntsAt H' p (xs.take n) → Q (.ref p) H') : rSlA K (.ref a) none (some (n : Int)) H Q :=
  slice_read ha fun p H' s h => q p H' s (by unfold IntsAt; rw [cut_to, ← List.map_take] at h; exact h)
section
variable {P : Program} {w : World} {K : PySem.W.Frag} {mg : Str → Option Value} {base : Heap}
/-! ### made -/
def spPInit (K : PySem.W.Frag) (C C0 CB CW : Addr) : Sp := fun vs H Q E => ∃ (p dx lo bl wi : Addr) (as : List Addr) (ll : List (List Int)) (b ws : List Int), vs = [.ref p, .ref lo, .ref bl, .ref wi] ∧ H p = some (.ins C dx []) ∧ LotB H lo as ll ∧ IntsAt H bl b ∧ b.length ≤ 100 ∧ IT K H wi ws ∧ ws.length ≤ 100 ∧
  (∀ k, flaw ll = some k → RefW C0 "bad lot" H E) ∧ (flaw ll = none → wrong (width ll) b ≠ none → RefW CB "bad bill" H E) ∧ (flaw ll = none → wrong (width ll) b = none → okWish ll.length ws = false → RefW CW "bad wish" H E) ∧
  (flaw ll = none → wrong (width ll) b = none → okWish ll.length ws = true → ∀ H' pA fA, Kx [p] H H' → KT H H' → H pA = none → H fA = none → PkAt C H' p ⟨lo, wi, (b, List.replicate ll.length 0, b), [], [], .non⟩ pA fA → Q .non H')
theorem ok_pInit {f C C0 CB CW : Addr} {fd : FuncData} {kws : List (Str × V)} (F : FunD K "__init__" "Picker.__init__" (defArgs (sP 0)) (defBody (sP 0)) (defScope (sP 0)) [] kws f fd) (B : Bl mg) (T : PkTxt K mg C) (CLB : Cal P w K mg base (L2.CX P w) 5 "look_bill" ["lot", "bill"] (spLookBill K C0 CB)) (CLW : Cal P w K mg base (L2.CX P w) 3 "look_wish" ["lot", "wish"] (spLookWish K CW)) :
    FnOk P w K mg base (L2.CX P w) 6 f fd ["self", "lot", "bill", "wish"] (spPInit K C C0 CB CW) := by
  obtain ⟨fB, fdB, GB, gB, kB, bB⟩ := CLB.ex
  obtain ⟨fV, fdV, GV, gV, kV', bV⟩ := CLW.ex
  refine F.ok scIn (fun vs H Q E h => ?_) (fun cdv A outer s H vs Q E hr h => ?_)
  · obtain ⟨p, dx, lo, bl, wi, as, ll, b, ws, rfl, _⟩ := h
    rfl
  · obtain ⟨p, dx, lo, bl, wi, as, ll, b, ws, rfl, hp, hL, hB, hbz, hW, hwz, q1, q2, q3, q4⟩ := h
    refine ⟨_, pss_cons (ps_expr (pe_call GB (hr.mono (by decide)) (by rfl) gB kB bB .nil (passes_call (takes_of rfl rfl rfl rfl) (fun _ _ _ _ h => h)) (pa_cons (pv 1) (pa_cons (pv 2) pa_nil))))
      (pss_cons (ps_expr (pe_call GV (hr.mono (by decide)) (by rfl) gV kV' bV .nil (passes_call (takes_of rfl rfl rfl rfl) (fun _ _ _ _ h => h)) (pa_cons (pv 1) (pa_cons (pv 3) pa_nil))))
      (pss_cons (ps_fld (pv 0) (pv 1) rfl)
      (pss_cons (ps_fld (pv 0) (pv 3) rfl)
      (pss_cons (ps_fld (pv 0) (pe_tup (pa_cons (pv 2) (pa_cons (pe_op op_repA (pe_tup (pa_cons pe_int pa_nil)) (pe_callB call_len_seq (by rfl) B.len PySem.boot_len (pa_cons (pv 1) pa_nil))) (pa_cons (pv 2) pa_nil)))) rfl)
      (pss_cons (ps_fld (pv 0) (pe_lst pa_nil) rfl)
      (pss_cons (ps_fld (pv 0) (pe_lst pa_nil) rfl)
      (pss_one (ps_fld (pv 0) pe_non rfl)))))))), ?_⟩
    refine ⟨.ref lo, rfl, .ref bl, rfl, lo, bl, as, ll, b, rfl, hL, hB.it, hbz, (fun k hk => (q1 k hk).refd (by decide)), (fun ef k hk => (q2 ef (by rw [hk]; exact fun z => by cases z)).refd (by decide)), fun ef ew H1 s1 => ?_⟩
    refine ⟨.ref lo, rfl, .ref wi, rfl, lo, wi, as, ll, ws, rfl, hL.1.same s1, hL.2.1, hW.same s1, hwz, fun eo H2 s2 => ?_, fun eo => (q3 ef ew eo).same s1⟩
    have s12 := s1.trans s2
    have q := q4 ef ew eo
    have hp2 := s12 _ _ hp
    have hR2 := hL.1.same s12
    have hB2 := hB.same s12
    have hok := flaw_ok ef
    have hlen := hL.1.2.len
    have kx0 : Kx [p] H H2 := s12.kx
    have kt0 : KT H H2 := s12.kt
    clear q1 q2 q3 q4 hL hB hW s1 s2
    refine ⟨.ref lo, rfl, .ref p, rfl, p, C, dx, _, rfl, hp2, T.cl, T.nL, (by show 0 < 1000; decide), ?_⟩
    have e1 : putF ("own_lot" : Str) (V.ref lo) [] = ([("own_lot", V.ref lo)] : List (Str × V)) := rfl
    rw [e1]
    have kx1 := kx0.trans (Kx.put (H := H2) (l := p) (o := .ins C dx [("own_lot", .ref lo)]) (A := [p]) (by simp))
    have kt1 := kt0.trans (KT.ins (ys := [("own_lot", .ref lo)]) hp2)
    have o1 : (upd H2 p (.ins C dx [("own_lot", .ref lo)])) p = some (.ins C dx [("own_lot", .ref lo)]) := upd_same
    have t2 := KT.ins (ys := [("own_lot", .ref lo)]) hp2
    have hR3 := rowsAt_kt hR2 t2
    have hB3 := ints_kt hB2 t2
    clear hR2 hB2 t2
    generalize upd H2 p (.ins C dx [("own_lot", .ref lo)]) = H3 at kx1 kt1 o1 hR3 hB3 ⊢
    refine ⟨.ref wi, rfl, .ref p, rfl, p, C, dx, _, rfl, o1, T.cl, T.nW, (by show 1 < 1000; decide), ?_⟩
    rw [pkf2]
    have kx2 := kx1.trans (Kx.put (H := H3) (l := p) (o := .ins C dx [("own_lot", .ref lo), ("own_wish", .ref wi)]) (A := [p]) (by simp))
    have t3 := KT.ins (ys := [("own_lot", .ref lo), ("own_wish", .ref wi)]) o1
    have kt2 := kt1.trans t3
    have o2 : (upd H3 p (.ins C dx [("own_lot", .ref lo), ("own_wish", .ref wi)])) p = some (.ins C dx [("own_lot", .ref lo), ("own_wish", .ref wi)]) := upd_same
    have hR4 := rowsAt_kt hR3 t3
    have hB4 := ints_kt hB3 t3
    clear hR3 hB3 t3
    generalize upd H3 p (.ins C dx [("own_lot", .ref lo), ("own_wish", .ref wi)]) = H4 at kx2 kt2 o2 hR4 hB4 ⊢
    refine ⟨.ref bl, rfl, sz_1 _, fun t1 nt1 => ?_⟩
    have st1 := same_new (o := .tup [.int 0]) nt1
    refine ⟨.ref lo, rfl, lo, _, rfl, .inr (SqT.of (st1 _ _ hR4.1)), ?_⟩
    rw [List.length_map, hlen]
    refine rep1_read upd_same (by omega) (by omega) fun z H5 s5 hz => ?_
    refine ⟨.ref bl, rfl, (by show 3 ≤ sizeLine; decide), fun s' ns' => ?_⟩
    have ss' := same_new (o := .tup [.ref bl, .ref z, .ref bl]) ns'
    have sA := (st1.trans s5).trans ss'
    have kx3 := kx2.trans (sA.kx (A := [p]))
    have kt3 := kt2.trans sA.kt
    have o3 := sA _ _ o2
    have hB5 := hB4.same sA
    have hz5 := hz.same ss'
    have u3 : (upd H5 s' (.tup [.ref bl, .ref z, .ref bl])) s' = some (.tup [.ref bl, .ref z, .ref bl]) := upd_same
    clear hB4 hz sA
    generalize upd H5 s' (.tup [.ref bl, .ref z, .ref bl]) = H6 at kx3 kt3 o3 hB5 hz5 u3 ⊢
    refine ⟨.ref p, rfl, p, C, dx, _, rfl, o3, T.cl, T.nS, (by show 2 < 1000; decide), ?_⟩
    rw [pkf3]
    have t4 := KT.ins (ys := [("own_lot", .ref lo), ("own_wish", .ref wi), ("stand", .ref s')]) o3
    have kx4 := kx3.trans (Kx.put (H := H6) (l := p) (o := .ins C dx [("own_lot", .ref lo), ("own_wish", .ref wi), ("stand", .ref s')]) (A := [p]) (by simp))
    have kt4 := kt3.trans t4
    have o4 : (upd H6 p (.ins C dx [("own_lot", .ref lo), ("own_wish", .ref wi), ("stand", .ref s')])) p = some (.ins C dx [("own_lot", .ref lo), ("own_wish", .ref wi), ("stand", .ref s')]) := upd_same
    have hB6 := ints_kt hB5 t4
    have hz6 := ints_kt hz5 t4
    have u4 := t4 _ _ u3
    clear hB5 hz5 t4 u3
    generalize upd H6 p (.ins C dx [("own_lot", .ref lo), ("own_wish", .ref wi), ("stand", .ref s')]) = H7 at kx4 kt4 o4 hB6 hz6 u4 ⊢
    have free : ∀ {Hn : Hp} {a : Addr} {fs : List (Str × V)}, Kx [p] H Hn → Hn p = some (.ins C dx fs) → Hn a = none → H a = none := fun {Hn a fs} kx on na => by
      cases e : H a with
      | none => rfl
      | some o =>
        have := kx a o e (fun z => by rw [List.mem_singleton.mp z, on] at na; cases na)
        rw [na] at this
        cases this
    refine ⟨Nat.zero_le _, fun pA nP => ?_⟩
    have fP := free kx4 o4 nP
    have sP' := same_new (o := .lst []) nP
    have kx5 := kx4.trans (sP'.kx (A := [p]))
    have kt5 := kt4.trans sP'.kt
    have o5 := sP' _ _ o4
    have u5 := sP' _ _ u4
    have hB7 := hB6.same sP'
    have hz7 := hz6.same sP'
    have l5 : (upd H7 pA (.lst [])) pA = some (.lst []) := upd_same
    have npA : pA ≠ p := fun z => by rw [z, o4] at nP; cases nP
    clear hB6 hz6 u4 sP'
    generalize upd H7 pA (.lst []) = H8 at kx5 kt5 o5 u5 hB7 hz7 l5 ⊢
    refine ⟨.ref p, rfl, p, C, dx, _, rfl, o5, T.cl, T.nP, (by show 3 < 1000; decide), ?_⟩
    rw [pkf4]
    have t6 := KT.ins (ys := [("own_lot", .ref lo), ("own_wish", .ref wi), ("stand", .ref s'), ("past", .ref pA)]) o5
    have kx6 := kx5.trans (Kx.put (H := H8) (l := p) (o := .ins C dx [("own_lot", .ref lo), ("own_wish", .ref wi), ("stand", .ref s'), ("past", .ref pA)]) (A := [p]) (by simp))
    have kt6 := kt5.trans t6
    have o6 : (upd H8 p (.ins C dx [("own_lot", .ref lo), ("own_wish", .ref wi), ("stand", .ref s'), ("past", .ref pA)])) p = some (.ins C dx [("own_lot", .ref lo), ("own_wish", .ref wi), ("stand", .ref s'), ("past", .ref pA)]) := upd_same
    have l6 : (upd H8 p (.ins C dx [("own_lot", .ref lo), ("own_wish", .ref wi), ("stand", .ref s'), ("past", .ref pA)])) pA = some (.lst []) := by rw [upd_ne npA]; exact l5
    have u6 := t6 _ _ u5
    have hB8 := ints_kt hB7 t6
    have hz8 := ints_kt hz7 t6
    clear hB7 hz7 u5 t6
    generalize upd H8 p (.ins C dx [("own_lot", .ref lo), ("own_wish", .ref wi), ("stand", .ref s'), ("past", .ref pA)]) = H9 at kx6 kt6 o6 l6 u6 hB8 hz8 ⊢
    refine ⟨Nat.zero_le _, fun fA nF => ?_⟩
    have fF := free kx6 o6 nF
    have sF' := same_new (o := .lst []) nF
    have kx7 := kx6.trans (sF'.kx (A := [p]))
    have kt7 := kt6.trans sF'.kt
    have o7 := sF' _ _ o6
    have u7 := sF' _ _ u6
    have l7 := sF' _ _ l6
    have hB9 := hB8.same sF'
    have hz9 := hz8.same sF'
    have m7 : (upd H9 fA (.lst [])) fA = some (.lst []) := upd_same
    have nfA : fA ≠ p := fun z => by rw [z, o6] at nF; cases nF
    have npf : pA ≠ fA := fun z => by rw [← z, l6] at nF; cases nF
    clear hB8 hz8 u6 sF'
    generalize upd H9 fA (.lst []) = H10 at kx7 kt7 o7 u7 hB9 hz9 l7 m7 ⊢
    refine ⟨.ref p, rfl, p, C, dx, _, rfl, o7, T.cl, T.nF, (by show 4 < 1000; decide), ?_⟩
    rw [pkf5]
    have t8 := KT.ins (ys := [("own_lot", .ref lo), ("own_wish", .ref wi), ("stand", .ref s'), ("past", .ref pA), ("future", .ref fA)]) o7
    have kx8 := kx7.trans (Kx.put (H := H10) (l := p) (o := .ins C dx [("own_lot", .ref lo), ("own_wish", .ref wi), ("stand", .ref s'), ("past", .ref pA), ("future", .ref fA)]) (A := [p]) (by simp))
    have kt8 := kt7.trans t8
    have o8 : (upd H10 p (.ins C dx [("own_lot", .ref lo), ("own_wish", .ref wi), ("stand", .ref s'), ("past", .ref pA), ("future", .ref fA)])) p = some (.ins C dx [("own_lot", .ref lo), ("own_wish", .ref wi), ("stand", .ref s'), ("past", .ref pA), ("future", .ref fA)]) := upd_same
    have l8 : (upd H10 p (.ins C dx [("own_lot", .ref lo), ("own_wish", .ref wi), ("stand", .ref s'), ("past", .ref pA), ("future", .ref fA)])) pA = some (.lst []) := by rw [upd_ne npA]; exact l7
    have m8 : (upd H10 p (.ins C dx [("own_lot", .ref lo), ("own_wish", .ref wi), ("stand", .ref s'), ("past", .ref pA), ("future", .ref fA)])) fA = some (.lst []) := by rw [upd_ne nfA]; exact m7
    have u8 := t8 _ _ u7
    have hB10 := ints_kt hB9 t8
    have hz10 := ints_kt hz9 t8
    clear hB9 hz9 u7 t8
    generalize upd H10 p (.ins C dx [("own_lot", .ref lo), ("own_wish", .ref wi), ("stand", .ref s'), ("past", .ref pA), ("future", .ref fA)]) = H11 at kx8 kt8 o8 l8 m8 u8 hB10 hz10 ⊢
    refine ⟨.ref p, rfl, p, C, dx, _, rfl, o8, T.cl, T.nB, (by show 5 < 1000; decide), ?_⟩
    rw [pkf6]
    have t9 := KT.ins (ys := pkF lo wi s' pA fA .non) o8
    refine q _ pA fA (kx8.trans (Kx.put (H := H11) (l := p) (o := .ins C dx (pkF lo wi s' pA fA .non)) (A := [p]) (by simp))) (kt8.trans t9) fP fF ⟨⟨dx, s', upd_same, bl, z, bl, t9 _ _ u8, ints_kt hB10 t9, ints_kt hz10 t9, ints_kt hB10 t9⟩, ⟨[], by rw [upd_ne npA]; exact l8, StsAt.nil⟩, ⟨[], by rw [upd_ne nfA]; exact m8, StsAt.nil⟩, npf⟩
/-! ### the best load -/
def spPBest (K : PySem.W.Frag) (C : Addr) : Sp := fun vs H Q _ => ∃ (p : Addr) (k : Pk) (pA fA : Addr) (ll : List (List Int)) (ws : List Int), vs = [.ref p] ∧ PkAt C H p k pA fA ∧ LotW K ll ws H k ∧ flaw ll = none ∧ ws.length ≤ 100 ∧ okWish ll.length ws = true ∧ k.st.1.length = width ll ∧ (∀ z ∈ k.st.1, 0 ≤ z ∧ z < G30) ∧ (∃ D, Few ll k.st.1 D) ∧
  ∀ H' z x, Same H H' → IsBest ll k.st.1 (numI ll.length ws) x → LdAt H' z (x.take ll.length, x.drop ll.length) → Q (.ref z) H'
theorem ok_pBest {f C C0 CB CW : Addr} {fd : FuncData} (F : Fun K "best" "Picker.best" (sP 13) f fd) (T : PkTxt K mg C) (CBl : MCal P w K mg base CX0 1 C "bill" ["self"] (spBill C)) (CB' : CalBL P w K mg base 6 "best_load" (spBestLoad K C0 CB CW)) : FnOk P w K mg base (L2.CX P w) 7 f fd ["self"] (spPBest K C) := by
  obtain ⟨fBl, fdBl, GBl, mBl, bBl⟩ := CBl
  obtain ⟨fBL, fdBL, T0, GBL, gBL, kBL, bBL, hT0, kb1⟩ := CB'
  refine F.okX scPBs (fun vs H Q E h => ?_) (fun cdv A outer s H vs Q E hr h => ?_)
  · obtain ⟨p, k, pA, fA, ll, ws, rfl, _⟩ := h
    rfl
  · obtain ⟨p, k, pA, fA, ll, ws, rfl, hP, ⟨⟨as, hR⟩, hW⟩, ef, hwz, eo, hbl, hbb, hF, q⟩ := h
    refine ⟨_, pss_one (ps_ret (pe_callN GBL (hr.mono (by decide)) (by rfl) gBL kBL kb1 (passes_call (takes_of rfl rfl rfl rfl) (fun _ _ _ _ h => h)) (pa_cons (pe_fld (pv 0) rfl) (pa_cons (pe_meth0 (pv 0) T.cl mBl GBl (hr.mono (by decide)) bBl .nil pass0) pa_nil)) (pk_cons (pe_fld (pv 0) rfl) pk_nil))), ?_⟩
    obtain ⟨⟨dx, s', h1, h2⟩, h3, h4, h5⟩ := hP
    refine ⟨.ref p, rfl, p, C, dx, _, _, rfl, h1, T.cl, T.nL, pk_lot, .ref p, rfl, p, dx, _, rfl, h1, pk_none (by decide +kernel), nilA ⟨p, k, pA, fA, rfl, ⟨⟨dx, s', h1, h2⟩, h3, h4, h5⟩, fun c hc => ?_⟩⟩
    refine ⟨.ref p, rfl, p, C, dx, _, _, rfl, h1, T.cl, T.nW, pk_wish, rfl, rfl, ?_⟩
    exact bl_ask hR ef hc hbl hbb hW eo hwz hF q
end
end HL

set_option pp.maxSteps 2000
namespace HL
open PySem PySem.Spec PyProof.Rows L2
open C8 (pss_cut)
open BL (vec Lb Bv Ld muv St1 RowOk)
theorem ldP_shaped (q : List Int × List Int) : SeqAt.shaped (ldP q) = true := by
  have h1 : ∀ r : List Int, PyData.canLayAll0 (r.map .int) = true := fun r => by
    induction r with
    | nil => rfl
    | cons x r ih => rw [List.map_cons, PyData.canLayAll0, ih]; rfl
  have r1 := row_depth q.1
  have r2 := row_depth q.2
  unfold SeqAt.shaped ldP
  simp only [PyData.canLay0, PyData.canLayAll0, h1]
  refine decide_eq_true ?_
  simp only [PyData.depth, PyData.depthAll] at r1 r2 ⊢
  omega
theorem chainF {i j L : Int} {te : TE} {σ : L2.St} {H : Hp} {Q : Bool → Hp → Prop} (hte : ∀ Q' : VK, Q' (.int j) H → te σ H Q') (h : Q (decide (i ≤ L ∧ L < j)) H) :
    if decide (i ≤ L) = true then te σ H (fun v H4 => rI0 (fun i j => V.bl (decide (i < j))) (.int L) v H4 (fun x H' => ∃ k, x = .bl k ∧ Q k H')) else ∃ k, V.bl false = V.bl k ∧ Q k H := by
  by_cases c : i ≤ L
  · rw [if_pos (decide_eq_true c)]
    refine hte _ ⟨L, j, rfl, rfl, _, rfl, ?_⟩
    rw [show decide (L < j) = decide (i ≤ L ∧ L < j) by simp [c]]
    exact h
  · rw [if_neg (fun z => c (of_decide_eq_true z))]
    refine ⟨false, rfl, ?_⟩
    rw [show false = decide (i ≤ L ∧ L < j) by simp [c]]
    exact h

theorem eq_lds {K : PySem.W.Frag} {H : Hp} {y z : Addr} {q p : List Int × List Int} {Q : VK} (h1 : LdAt H y q) (h2 : LdAt H z p) (k : Q (.bl (decide (q = p))) H) : rEqD K (.ref y) (.ref z) H Q :=
  ⟨ldP q, ldP p, dp_ldP h1, dp_ldP h2, ldP_shaped q, ldP_shaped p, by rw [ldP_eqv]; exact k⟩
section
variable {P : Program} {w : World} {K : PySem.W.Frag} {mg : Str → Option Value} {base : Heap}
/-! ### whether it is the best, what is left -/
def spIsB (K : PySem.W.Frag) (C : Addr) : Sp := fun vs H Q _ => ∃ (p : Addr) (k : Pk) (pA fA : Addr) (ll : List (List Int)) (ws : List Int), vs = [.ref p] ∧ PkAt C H p k pA fA ∧ LotW K ll ws H k ∧ flaw ll = none ∧ ws.length ≤ 100 ∧ okWish ll.length ws = true ∧ k.st.1.length = width ll ∧ (∀ z ∈ k.st.1, 0 ≤ z ∧ z < G30) ∧ (∃ D, Few ll k.st.1 D) ∧
  ∀ H' x, Same H H' → IsBest ll k.st.1 (numI ll.length ws) x → Q (.bl (decide ((x.take ll.length, x.drop ll.length) = (k.st.2.1, k.st.2.2)))) H'
theorem ok_pIsB {f C : Addr} {fd : FuncData} (F : Fun K "is_best" "Picker.is_best" (sP 19) f fd) (T : PkTxt K mg C) (CBs : MCal P w K mg base (L2.CX P w) 7 C "best" ["self"] (spPBest K C)) (CC : MCal P w K mg base CX0 1 C "counts" ["self"] (spCnt C)) (CLo : MCal P w K mg base CX0 1 C "loose" ["self"] (spLoose C)) : FnOk P w K mg base (L2.CX P w) 8 f fd ["self"] (spIsB K C) := by
  obtain ⟨fBs, fdBs, GBs, mBs, bBs⟩ := CBs
  obtain ⟨fC, fdC, GC, mC, bC⟩ := CC
  obtain ⟨fLo, fdLo, GLo, mLo, bLo⟩ := CLo
  refine F.okX scIB (fun vs H Q E h => ?_) (fun cdv A outer s H vs Q E hr h => ?_)
  · obtain ⟨p, k, pA, fA, ll, ws, rfl, _⟩ := h
    rfl
  · obtain ⟨p, k, pA, fA, ll, ws, rfl, hP, hL, ef, hwz, eo, hbl, hbb, hF, q⟩ := h
    refine ⟨_, pss_one (ps_ret (pe_cmpR (op_eqD hr.units) (pe_meth0 (pv 0) T.cl mBs GBs (hr.mono (by decide)) bBs .nil (passes_call (takes_of rfl rfl rfl rfl) (fun _ _ _ _ h => h))) (pe_tup (pa_cons (pe_meth0 (pv 0) T.cl mC GC (hr.mono (by decide)) bC .nil pass0) (pa_cons (pe_meth0 (pv 0) T.cl mLo GLo (hr.mono (by decide)) bLo .nil pass0) pa_nil))) (nomark _))), ?_⟩
    obtain ⟨dx, s', h1, h2⟩ := hP.ob
    refine ⟨.ref p, rfl, p, dx, _, rfl, h1, pk_none (by decide +kernel), nilA ⟨p, k, pA, fA, ll, ws, rfl, hP, hL, ef, hwz, eo, hbl, hbb, hF, fun H1 z x s1 hx hz1 => ?_⟩⟩
    have P1 := hP.same s1
    have g1 := s1 _ _ h1
    refine ⟨.ref p, rfl, p, dx, _, rfl, g1, pk_none (by decide +kernel), nilA ⟨p, k, pA, fA, rfl, P1, fun c hc => ?_⟩⟩
    refine ⟨.ref p, rfl, p, dx, _, rfl, g1, pk_none (by decide +kernel), nilA ⟨p, k, pA, fA, rfl, P1, fun l hl => ⟨sz_2 _ _, fun t nt => ?_⟩⟩⟩
    have st := same_new (o := .tup [.ref c, .ref l]) nt
    exact eq_lds (hz1.same st) ⟨c, l, upd_same, hc.same st, hl.same st⟩ (q _ x (s1.trans st) hx)
def spLeft (C : Addr) : Sp := fun vs H Q _ => ∃ (p : Addr) (k : Pk) (pA fA : Addr), vs = [.ref p] ∧ PkAt C H p k pA fA ∧ ∀ H' t, Same H H' → IntsAt H' t [(k.past.length : Nat), (k.fut.length : Nat)] → Q (.ref t) H'
theorem ok_pLeft {f C : Addr} {fd : FuncData} {n : Nat} (F : Fun K "left" "Picker.left" (sP 20) f fd) (B : Bl mg) (T : PkTxt K mg C) : FnOk P w K mg base CX0 (n + 1) f fd ["self"] (spLeft C) := by
  refine F.ok scLf (fun vs H Q E h => ?_) (fun cdv A outer s H vs Q E hr h => ?_)
  · obtain ⟨p, k, pA, fA, rfl, _⟩ := h
    rfl
  · obtain ⟨p, k, pA, fA, rfl, hP, q⟩ := h
    refine ⟨_, pss_one (ps_ret (pe_tup (pa_cons (pe_callB call_len_seq (by rfl) B.len PySem.boot_len (pa_cons (pe_fld (pv 0) rfl) pa_nil)) (pa_cons (pe_callB call_len_seq (by rfl) B.len PySem.boot_len (pa_cons (pe_fld (pv 0) rfl) pa_nil)) pa_nil)))), ?_⟩
    obtain ⟨⟨dx, s', h1, h2⟩, ⟨as, h3, h4⟩, ⟨bs, h5, h6⟩, h7⟩ := hP
    refine ⟨.ref p, rfl, p, C, dx, _, _, rfl, h1, T.cl, T.nP, pk_past, pA, _, rfl, .inl (SqL.of h3), .ref p, rfl, p, C, dx, _, _, rfl, h1, T.cl, T.nF, pk_fut, fA, _, rfl, .inl (SqL.of h5), sz_2 _ _, fun t nt => q _ t (same_new nt) ?_⟩
    rw [List.length_map, List.length_map, h4.1, h6.1]
    exact upd_same
end
end HL

set_option pp.maxSteps 1500
namespace HL
open PySem PySem.Spec PyProof.Rows L2
open C8 (pss_cut)
open SX (S S_len)
abbrev sRowText : Stmt := topS 49
theorem scRT : FnScope ["row", "number"] ["row"] (defScope sRowText) := ⟨rfl, rfl, rfl, by decide +kernel, rfl, by decide +kernel, by decide +kernel⟩
theorem st_comma : (Str.ofString "," : Str) = S [44] := TL.ext_tl (by rw [TL.tl_ofString]; rfl)
def SmallN (ns : List Int) : Prop := ∀ n ∈ ns, n.natAbs < 10 ^ 30
theorem log_small {n : Int} (h : n.natAbs < 10 ^ 30) : n.natAbs.log2 < 1920 := by
  by_cases z : n.natAbs = 0
  · rw [z]
    decide
  · refine (Nat.log2_lt z).mpr (Nat.lt_of_lt_of_le h ?_)
    exact Nat.le_trans (show 10 ^ 30 ≤ 2 ^ 100 by decide) (Nat.pow_le_pow_right (by decide) (by decide))
theorem sum_lens {ns : List Int} (h : SmallN ns) (hz : ns.length ≤ 100) : (((ns.map wr).map S).map (·.length)).sum + ((ns.map wr).map S).length * (Str.ofString ",").length ≤ 16777216 := by
  have e1 : (Str.ofString ",").length = 1 := by rw [st_comma, S_len]; rfl
  rw [e1, List.length_map, List.length_map]
  have key : ∀ ms : List Int, SmallN ms → (((ms.map wr).map S).map (·.length)).sum ≤ ms.length * 31 := by
    intro ms
    induction ms with
    | nil => intro _; exact Nat.le_refl _
    | cons m ms ih =>
      intro hm
      have h1 := wr_len (hm m List.mem_cons_self)
      have h2 := ih fun n hn => hm n (List.mem_cons_of_mem _ hn)
      rw [List.map_cons, List.map_cons, List.map_cons, List.sum_cons, List.length_cons, S_len, Nat.succ_mul]
      omega
  have := key ns h
  omega
section
variable {P : Program} {w : World} {K : PySem.W.Frag} {mg : Str → Option Value} {base : Heap}
def spRowText (K : PySem.W.Frag) : Sp := fun vs H Q _ => ∃ (p : Addr) (ns : List Int), vs = [.ref p] ∧ SqT K H p (ns.map V.int) ∧ ns.length ≤ 100 ∧ SmallN ns ∧ ∀ H', Same H H' → Q (.str (S (rowL ns))) H'
theorem ok_rowText {f : Addr} {fd : FuncData} {k : Nat} (F : Fun K "row_text" "row_text" sRowText f fd) (B : Bl mg) : FnOk P w K mg base CX0 (k + 1) f fd ["row"] (spRowText K) := by
  refine F.ok scRT (fun vs H Q E h => ?_) (fun cdv A outer s H vs Q E hr h => ?_)
  · obtain ⟨p, ns, rfl, _⟩ := h
    rfl
  · obtain ⟨p, ns, rfl, hp, hz, hs, q⟩ := h
    refine ⟨_, pss_one (ps_ret (pe_join pe_str (pe_lc (own := [("number", 1)]) (g := gName 1) (tt := tYes) rfl scRT.nd (pi_tup (pv 0))
          (blkOk_by (own := [("number", 1)]) (N := ["row", "number"]) (sc := defScope sRowText) (by decide +kernel)) (fun _ _ _ _ _ => pg_name (i := 1) scRT.nd rfl (Or.inl rfl)) (fun _ _ _ _ _ => pts_nil)
          (fun _ _ _ _ _ => pe_callTy call_str_int (by rfl) B.str (by decide +kernel) (pa_cons (pv 1) pa_nil))))), ?_⟩
    refine ⟨⟨_, rfl⟩, .ref p, rfl, p, rfl, ⟨_, hp⟩, fun D nD => ?_⟩
    refine lc_tup (K := K) (a := p) (xs := ns.map V.int) (fun i H' => Same H H' ∧ H' D = some (.lst ((((ns.map wr).map S).take i).map V.str))) ⟨same_new nD, upd_same⟩ (fun i H' _ ⟨sm, _⟩ => sqT_same hp sm) (fun i x H' hx ⟨sm, hD⟩ => ?_) (fun H' ⟨sm, hD⟩ => ?_)
    · obtain ⟨n, hn, rfl⟩ : ∃ n, ns[i]? = some n ∧ x = V.int n := by
        rw [List.getElem?_map] at hx
        cases e : ns[i]? with
        | none => rw [e] at hx; cases hx
        | some n => rw [e] at hx; exact ⟨n, rfl, (Option.some.inj hx).symm⟩
      refine ⟨rfl, yes (iteT ?_)⟩
      refine ⟨_, rfl, n, rfl, log_small (hs n (List.mem_of_getElem? hn)), _, hD, ?_, same_late sm nD, ?_⟩
      · rw [List.length_map]
        exact small1000 (Nat.le_trans (List.length_take_le' _ _) (by rw [List.length_map, List.length_map]; omega))
      · have e : ((ns.map wr).map S)[i]? = some (S (wr n)) := by rw [List.getElem?_map, List.getElem?_map, hn]; rfl
        rw [upd_same, List.take_add_one, e, List.map_append, ← tl_wr]
        rfl
    · have e : ((ns.map wr).map S).take (ns.map V.int).length = (ns.map wr).map S := List.take_of_length_le (by rw [List.length_map, List.length_map, List.length_map]; omega)
      rw [e] at hD
      refine ⟨_, D, _, rfl, rfl, .inl (SqL.of hD), sum_lens hs hz, ?_⟩
      rw [show Txt.join (Str.ofString ",") ((ns.map wr).map S) = S (rowL ns) by rw [st_comma]; exact join_row ns]
      exact q H' sm
end

theorem wr_len2 {n : Int} (h : n.natAbs < 10 ^ 32) : (wr n).length ≤ 33 := by
  unfold wr
  split
  · have := TL.numL_len (n := n.toNat) (k := 32) (by decide) (by omega)
    omega
  · have := TL.numL_len (n := n.natAbs) (k := 32) (by decide) h
    rw [List.length_cons]
    omega
theorem log_small2 {n : Int} (h : n.natAbs < 10 ^ 32) : n.natAbs.log2 < 1920 := by
  by_cases c : n.natAbs = 0
  · rw [c]; decide
  · exact (Nat.log2_lt c).mpr (Nat.lt_trans h (by decide +kernel))
theorem num_len {n : Int} (h : n.natAbs < 10 ^ 32) : (Str.ofString (toString n)).length ≤ 33 := by rw [tl_wr, S_len]; exact wr_len2 h
/-- how a picker is shown -/
def repP (n : Nat) (l : Int) : Str := ((((Str.empty ++ Str.ofString "Picker(") ++ Str.ofString (toString (n : Int))) ++ Str.ofString " kinds, ") ++ Str.ofString (toString l)) ++ Str.ofString " loose)"
def npos (cs : List Int) : Nat := (cs.filter fun n => decide (n > 0)).length
theorem scP1' : FnScope ["self"] ["self"] (defScope (sP 1)) := ⟨rfl, rfl, rfl, by decide +kernel, rfl, by decide +kernel, by decide +kernel⟩
theorem scP3' : FnScope ["self"] ["self"] (defScope (sP 3)) := ⟨rfl, rfl, rfl, by decide +kernel, rfl, by decide +kernel, by decide +kernel⟩
theorem scHa : FnScope ["self"] ["self"] (defScope (sP 22)) := ⟨rfl, rfl, rfl, by decide +kernel, rfl, by decide +kernel, by decide +kernel⟩
theorem scLn : FnScope ["self", "count"] ["self"] (defScope (sP 23)) := ⟨rfl, rfl, rfl, by decide +kernel, rfl, by decide +kernel, by decide +kernel⟩
theorem scSr : FnScope ["self"] ["self"] (defScope (sP 25)) := ⟨rfl, rfl, rfl, by decide +kernel, rfl, by decide +kernel, by decide +kernel⟩
theorem scRp : FnScope ["self"] ["self"] (defScope (sP 26)) := ⟨rfl, rfl, rfl, by decide +kernel, rfl, by decide +kernel, by decide +kernel⟩
section
variable {P : Program} {w : World} {K : PySem.W.Frag} {mg : Str → Option Value} {base : Heap}
def spPLot (C : Addr) : Sp := fun vs H Q _ => ∃ (p : Addr) (k : Pk) (pA fA : Addr), vs = [.ref p] ∧ PkAt C H p k pA fA ∧ Q (.ref k.lo) H
theorem ok_pLot {f C : Addr} {fd : FuncData} {n : Nat} (F : Fun K "lot" "Picker.lot" (sP 1) f fd) (T : PkTxt K mg C) : FnOk P w K mg base CX0 (n + 1) f fd ["self"] (spPLot C) := by
  refine F.ok scP1' (fun vs H Q E h => ?_) (fun cdv A outer s H vs Q E hr h => ?_)
  · obtain ⟨p, k, pA, fA, rfl, _⟩ := h
    rfl
  · obtain ⟨p, k, pA, fA, rfl, hP, q⟩ := h
    obtain ⟨dx, s', h1, _⟩ := hP.ob
    exact ⟨_, pss_one (ps_ret (pe_fld (pv 0) rfl)), .ref p, rfl, p, C, dx, _, _, rfl, h1, T.cl, T.nL, pk_lot, q⟩
def spPWish (C : Addr) : Sp := fun vs H Q _ => ∃ (p : Addr) (k : Pk) (pA fA : Addr), vs = [.ref p] ∧ PkAt C H p k pA fA ∧ Q (.ref k.wi) H
theorem ok_pWish {f C : Addr} {fd : FuncData} {n : Nat} (F : Fun K "wish" "Picker.wish" (sP 3) f fd) (T : PkTxt K mg C) : FnOk P w K mg base CX0 (n + 1) f fd ["self"] (spPWish C) := by
  refine F.ok scP3' (fun vs H Q E h => ?_) (fun cdv A outer s H vs Q E hr h => ?_)
  · obtain ⟨p, k, pA, fA, rfl, _⟩ := h
    rfl
  · obtain ⟨p, k, pA, fA, rfl, hP, q⟩ := h
    obtain ⟨dx, s', h1, _⟩ := hP.ob
    exact ⟨_, pss_one (ps_ret (pe_fld (pv 0) rfl)), .ref p, rfl, p, C, dx, _, _, rfl, h1, T.cl, T.nW, pk_wish, q⟩
def spPHam (C : Addr) : Sp := fun vs H Q _ => ∃ (p : Addr) (k : Pk) (pA fA : Addr), vs = [.ref p] ∧ PkAt C H p k pA fA ∧ Q (.int k.st.2.1.sum) H
theorem ok_pHam {f C : Addr} {fd : FuncData} (F : Fun K "hampers" "Picker.hampers" (sP 22) f fd) (B : Bl mg) (T : PkTxt K mg C) (CC : MCal P w K mg base CX0 1 C "counts" ["self"] (spCnt C)) : FnOk P w K mg base CX0 2 f fd ["self"] (spPHam C) := by
  obtain ⟨fC, fdC, GC, mC, bC⟩ := CC
  refine F.ok scHa (fun vs H Q E h => ?_) (fun cdv A outer s H vs Q E hr h => ?_)
  · obtain ⟨p, k, pA, fA, rfl, _⟩ := h
    rfl
  · obtain ⟨p, k, pA, fA, rfl, hP, q⟩ := h
    obtain ⟨dx, s', h1, _⟩ := hP.ob
    exact ⟨_, pss_one (ps_ret (pe_callB (cr_sumT rfl) (by rfl) B.sum (by decide +kernel) (pa_cons (pe_meth0 (pv 0) T.cl mC GC (hr.mono (by decide)) bC .nil pass0) pa_nil))), .ref p, rfl, p, dx, _, rfl, h1, pk_none (by decide +kernel), nilA ⟨p, k, pA, fA, rfl, hP, fun c hc => ⟨c, _, rfl, SqT.of hc, q⟩⟩⟩
def spPLen (C : Addr) : Sp := fun vs H Q _ => ∃ (p : Addr) (k : Pk) (pA fA : Addr), vs = [.ref p] ∧ PkAt C H p k pA fA ∧ k.st.2.1.length ≤ 100 ∧ ∀ H', Same H H' → Q (.int (npos k.st.2.1 : Nat)) H'
theorem ok_pLen {f C : Addr} {fd : FuncData} (F : Fun K "__len__" "Picker.__len__" (sP 23) f fd) (B : Bl mg) (T : PkTxt K mg C) (CC : MCal P w K mg base CX0 1 C "counts" ["self"] (spCnt C)) : FnOk P w K mg base CX0 2 f fd ["self"] (spPLen C) := by
  obtain ⟨fC, fdC, GC, mC, bC⟩ := CC
  refine F.ok scLn (fun vs H Q E h => ?_) (fun cdv A outer s H vs Q E hr h => ?_)
  · obtain ⟨p, k, pA, fA, rfl, _⟩ := h
    rfl
  · obtain ⟨p, k, pA, fA, rfl, hP, hz, q⟩ := h
    obtain ⟨dx, s', h1, _⟩ := hP.ob
    refine ⟨_, pss_one (ps_ret (pe_callB call_len_seq (by rfl) B.len PySem.boot_len (pa_cons (pe_lc (own := [("count", 1)]) (g := gName 1) rfl scLn.nd (pi_tup (pe_meth0 (pv 0) T.cl mC GC (hr.mono (by decide)) bC .nil pass0))
        (blkOk_by (own := [("count", 1)]) (N := ["self", "count"]) (sc := defScope (sP 23)) (by decide +kernel)) (fun _ _ _ _ _ => pg_name (i := 1) scLn.nd rfl (Or.inl rfl)) (fun _ _ _ _ _ => pts_one (pt_cmpR op_gt (pv 1) pe_int (nomark _)))
        (fun _ _ _ _ _ => (pv 1))) pa_nil))), ?_⟩
    refine ⟨.ref p, rfl, p, dx, _, rfl, h1, pk_none (by decide +kernel), nilA ⟨p, k, pA, fA, rfl, hP, fun c hc => ⟨c, rfl, ⟨_, SqT.of hc⟩, fun D nD => ?_⟩⟩⟩
    refine lc_tup (K := K) (a := c) (xs := k.st.2.1.map V.int) (fun i H' => Same H H' ∧ H' D = some (.lst (((k.st.2.1.take i).filter fun n => decide (n > 0)).map V.int))) ⟨same_new nD, upd_same⟩ (fun i H' _ hP' => SqT.of (hc.same hP'.1)) (fun i x H' hx ⟨sm, hD⟩ => ?_) (fun H' ⟨sm, hD⟩ => ?_)
    · obtain ⟨n, hn, rfl⟩ : ∃ n, k.st.2.1[i]? = some n ∧ x = V.int n := by
        rw [List.getElem?_map] at hx
        cases e : k.st.2.1[i]? with
        | none => rw [e] at hx; cases hx
        | some n => rw [e] at hx; exact ⟨n, rfl, (Option.some.inj hx).symm⟩
      have em : ((k.st.2.1.take (i + 1)).filter fun n => decide (n > 0)) = ((k.st.2.1.take i).filter fun n => decide (n > 0)) ++ if decide (n > 0) = true then [n] else [] := by
        rw [List.take_add_one, hn, List.filter_append]
        congr 1
        show List.filter _ [n] = _
        rw [List.filter_cons, List.filter_nil]
      refine ⟨rfl, .int n, rfl, _, _, rfl, rfl, _, rfl, ite2 (fun c1 => ?_) (fun c1 => ?_)⟩
      · refine ⟨.int n, rfl, _, hD, ?_, same_late sm nD, ?_⟩
        · rw [List.length_map]
          exact small1000 (Nat.le_trans (List.length_filter_le _ _) (Nat.le_trans (List.length_take_le' _ _) (by omega)))
        · rw [upd_same, em, if_pos c1, List.map_append]
          rfl
      · refine ⟨sm, ?_⟩
        rw [em, if_neg c1, List.append_nil]
        exact hD
    · rw [List.length_map, List.take_length] at hD
      refine ⟨D, _, rfl, .inl (SqL.of hD), ?_⟩
      rw [List.length_map]
      exact q H' sm
def spPStr (K : PySem.W.Frag) (C : Addr) : Sp := fun vs H Q _ => ∃ (p : Addr) (k : Pk) (pA fA : Addr), vs = [.ref p] ∧ PkAt C H p k pA fA ∧ k.st.2.1.length ≤ 100 ∧ SmallN k.st.2.1 ∧ ∀ H', Same H H' → Q (.str (S (rowL k.st.2.1))) H'
theorem ok_pStr {f C : Addr} {fd : FuncData} (F : Fun K "__str__" "Picker.__str__" (sP 25) f fd) (B : Bl mg) (T : PkTxt K mg C) (CC : MCal P w K mg base CX0 1 C "counts" ["self"] (spCnt C)) (CR : Cal P w K mg base CX0 1 "row_text" ["row"] (spRowText K)) : FnOk P w K mg base CX0 2 f fd ["self"] (spPStr K C) := by
  obtain ⟨fC, fdC, GC, mC, bC⟩ := CC
  obtain ⟨fR, fdR, GR, gR, kR, bR⟩ := CR.ex
  refine F.ok scSr (fun vs H Q E h => ?_) (fun cdv A outer s H vs Q E hr h => ?_)
  · obtain ⟨p, k, pA, fA, rfl, _⟩ := h
    rfl
  · obtain ⟨p, k, pA, fA, rfl, hP, hz, hs, q⟩ := h
    obtain ⟨dx, s', h1, _⟩ := hP.ob
    exact ⟨_, pss_one (ps_ret (pe_callTy SkE.call_str_str (by rfl) B.str (by decide +kernel) (pa_cons (pe_call GR (hr.mono (by decide)) (by rfl) gR kR bR .nil pass0 (pa_cons (pe_meth0 (pv 0) T.cl mC GC (hr.mono (by decide)) bC .nil pass0) pa_nil)) pa_nil))), .ref p, rfl, p, dx, _, rfl, h1, pk_none (by decide +kernel), nilA ⟨p, k, pA, fA, rfl, hP, fun c hc => ⟨c, _, rfl, SqT.of hc, hz, hs, fun H' s' => ⟨_, rfl, q H' s'⟩⟩⟩⟩
def spPRep (C : Addr) : Sp := fun vs H Q _ => ∃ (p : Addr) (k : Pk) (pA fA : Addr) (as : List Addr) (ll : List (List Int)), vs = [.ref p] ∧ PkAt C H p k pA fA ∧ RowsAt H k.lo as ll ∧ ll.length ≤ 100 ∧ k.st.2.2.sum.natAbs < 10 ^ 32 ∧ Q (.str (repP ll.length k.st.2.2.sum)) H
theorem ok_pRep {f C : Addr} {fd : FuncData} (F : Fun K "__repr__" "Picker.__repr__" (sP 26) f fd) (B : Bl mg) (T : PkTxt K mg C) (CL : MCal P w K mg base CX0 1 C "loose" ["self"] (spLoose C)) : FnOk P w K mg base CX0 2 f fd ["self"] (spPRep C) := by
  obtain ⟨fL, fdL, GL, mL, bL⟩ := CL
  refine F.ok scRp (fun vs H Q E h => ?_) (fun cdv A outer s H vs Q E hr h => ?_)
  · obtain ⟨p, k, pA, fA, as, ll, rfl, _⟩ := h
    rfl
  · obtain ⟨p, k, pA, fA, as, ll, rfl, hP, hR, hz, hs, q⟩ := h
    obtain ⟨dx, s', h1, _⟩ := hP.ob
    refine ⟨_, pss_one (ps_ret (pe_joined (.cons pe_str (.cons (pe_fmt (pe_callB call_len_seq (by rfl) B.len PySem.boot_len (pa_cons (pe_fld (pv 0) rfl) pa_nil))) (.cons pe_str (.cons (pe_fmt (pe_callB (cr_sumT rfl) (by rfl) B.sum (by decide +kernel) (pa_cons (pe_meth0 (pv 0) T.cl mL GL (hr.mono (by decide)) bL .nil pass0) pa_nil))) (.cons pe_str .nil))))))), ?_⟩
    have hlen := hR.2.len
    have n1 : ((ll.length : Nat) : Int).natAbs < 10 ^ 32 := by
      have : (100 : Nat) < 10 ^ 32 := by decide
      omega
    have m1 := num_len n1
    have m2 := num_len hs
    have z0 : Str.empty.length = 0 := rfl
    have b1 : (Str.ofString "Picker(").length = 7 := by decide +kernel
    have b2 : (Str.ofString " kinds, ").length = 8 := by decide +kernel
    have b3 : (Str.ofString " loose)").length = 7 := by decide +kernel
    have sl : (1000 : Nat) ≤ sizeLine := by decide
    refine ⟨_, rfl, ?_, .ref p, rfl, p, C, dx, _, _, rfl, h1, T.cl, T.nL, pk_lot, k.lo, _, rfl, .inr (SqT.of hR.1), .inr ⟨_, rfl, ?_, _, rfl, ?_, _, rfl, ?_, .ref p, rfl, p, dx, _, rfl, h1, pk_none (by decide +kernel), nilA ⟨p, k, pA, fA, rfl, hP, fun l hl => ⟨l, _, rfl, SqT.of hl, .inr ⟨_, rfl, ?_, _, rfl, ?_, _, rfl, ?_, ?_⟩⟩⟩⟩⟩
    · rw [Str.length_append, b1, z0]; omega
    · rw [List.length_map, hlen]; exact log_small2 n1
    · rw [List.length_map, hlen, Str.length_append, Str.length_append, b1, z0]; omega
    · rw [List.length_map, hlen, Str.length_append, Str.length_append, Str.length_append, b1, b2, z0]; omega
    · exact log_small2 hs
    · rw [List.length_map, hlen, Str.length_append, Str.length_append, Str.length_append, Str.length_append, b1, b2, z0]; omega
    · rw [List.length_map, hlen, Str.length_append, Str.length_append, Str.length_append, Str.length_append, Str.length_append, b1, b2, b3, z0]; omega
    · rw [List.length_map, hlen]
      exact q
end
end HL

set_option pp.maxSteps 1500
namespace HL
open PySem PySem.Spec PyProof.Rows L2
open C8 (pss_cut)
open SX (S S_len)
open BL (vec Lb Bv Ld muv St1 RowOk)
abbrev sSeen : Stmt := topS 67
abbrev sDueS : Stmt := topS 68
abbrev sRowT2 : Stmt := topS 66
abbrev sNought : Stmt := topS 65
/-! ### rows, stands as data -/
def lotD (ll : List (List Int)) : PyData := .tuple (ll.map fun r => .tuple (r.map .int))
theorem dp_rowsT {K : PySem.W.Frag} {H : Hp} : ∀ {as : List Addr} {ll : List (List Int)}, Rows H as ll → DpAll K H (as.map V.ref) (ll.map fun r => PyData.tuple (r.map .int))
  | [], [], _ => .nil
  | a :: as, r :: rs, h => .cons (.tup (SqT.of h.1) (dq_ints _)) (dp_rowsT h.2)
  | [], _ :: _, h => h.elim
  | _ :: _, [], h => h.elim
theorem dp_lot {K : PySem.W.Frag} {H : Hp} {p : Addr} {as : List Addr} {ll : List (List Int)} (h : RowsAt H p as ll) : Dp K H (.ref p) (lotD ll) := .tup (SqT.of h.1) (dp_rowsT h.2)
theorem lotD_eqvs : ∀ l m : List (List Int), PyData.eqvAll (l.map fun r => PyData.tuple (r.map .int)) (m.map fun r => PyData.tuple (r.map .int)) = decide (l = m)
  | [], [] => by simp [PyData.eqvAll]
  | [], _ :: _ => by simp [PyData.eqvAll]
  | _ :: _, [] => by simp [PyData.eqvAll]
  | a :: l, b :: m => by
    rw [List.map_cons, List.map_cons, PyData.eqvAll, dq_eqv, lotD_eqvs l m]
    by_cases c : a = b
    · rw [decide_eq_true c, Bool.true_and, c]
      simp
    · rw [decide_eq_false c, Bool.false_and]
      exact (decide_eq_false fun z => c (List.cons.inj z).1).symm
theorem lotD_eqv (l m : List (List Int)) : PyData.eqv (lotD l) (lotD m) = decide (l = m) := by
  unfold lotD
  rw [PyData.eqv]
  exact lotD_eqvs l m
theorem lotD_shaped (ll : List (List Int)) : SeqAt.shaped (lotD ll) = true := by
  have h0 : ∀ r : List Int, PyData.canLayAll0 (r.map .int) = true := fun r => by
    induction r with
    | nil => rfl
    | cons x r ih => rw [List.map_cons, PyData.canLayAll0, ih]; rfl
  have h1 : PyData.canLayAll0 (ll.map fun r => PyData.tuple (r.map .int)) = true := by
    induction ll with
    | nil => rfl
    | cons r ll ih => rw [List.map_cons, PyData.canLayAll0, ih, PyData.canLay0, h0]; rfl
  have h2 : PyData.depthAll (ll.map fun r => PyData.tuple (r.map .int)) ≤ 1 := by
    clear h1
    induction ll with
    | nil => simp [PyData.depthAll]
    | cons r ll ih =>
      have := row_depth r
      rw [List.map_cons, PyData.depthAll]
      simp only [PyData.depth] at this ⊢
      omega
  unfold SeqAt.shaped lotD
  simp only [PyData.canLay0, h1, PyData.depth]
  refine decide_eq_true ?_
  omega
def stD (t : Stand) : PyData := .tuple [.tuple (t.1.map .int), .tuple (t.2.1.map .int), .tuple (t.2.2.map .int)]
theorem dp_st {K : PySem.W.Frag} {H : Hp} {s : Addr} {t : Stand} (h : StAt H s t) : Dp K H (.ref s) (stD t) := by
  obtain ⟨b, c, l, h1, h2, h3, h4⟩ := h
  exact .tup (SqT.of h1) (.cons (dq_row h2) (.cons (dq_row h3) (.cons (dq_row h4) .nil)))
theorem stD_eqv (q p : Stand) : PyData.eqv (stD q) (stD p) = decide (q = p) := by
  have h1 := dq_eqv q.1 p.1
  have h2 := dq_eqv q.2.1 p.2.1
  have h3 := dq_eqv q.2.2 p.2.2
  have e : PyData.eqv (stD q) (stD p) = (PyData.eqv (.tuple (q.1.map .int)) (.tuple (p.1.map .int)) && (PyData.eqv (.tuple (q.2.1.map .int)) (.tuple (p.2.1.map .int)) && PyData.eqv (.tuple (q.2.2.map .int)) (.tuple (p.2.2.map .int)))) := by
    unfold stD
    rw [PyData.eqv, PyData.eqvAll, PyData.eqvAll, PyData.eqvAll, PyData.eqvAll, Bool.and_true]
  rw [e, h1, h2, h3]
  by_cases c : q = p
  · subst c
    simp
  · rw [decide_eq_false c]
    by_cases c1 : q.1 = p.1
    · by_cases c2 : q.2.1 = p.2.1
      · have c3 : q.2.2 ≠ p.2.2 := fun z => c (Prod.ext c1 (Prod.ext c2 z))
        rw [decide_eq_false c3, Bool.and_false, Bool.and_false]
      · rw [decide_eq_false c2, Bool.false_and, Bool.and_false]
    · rw [decide_eq_false c1, Bool.false_and]
theorem stD_shaped (q : Stand) : SeqAt.shaped (stD q) = true := by
  have h1 : ∀ r : List Int, PyData.canLayAll0 (r.map .int) = true := fun r => by
    induction r with
    | nil => rfl
    | cons x r ih => rw [List.map_cons, PyData.canLayAll0, ih]; rfl
  have r1 := row_depth q.1
  have r2 := row_depth q.2.1
  have r3 := row_depth q.2.2
  unfold SeqAt.shaped stD
  simp only [PyData.canLay0, PyData.canLayAll0, h1]
  refine decide_eq_true ?_
  simp only [PyData.depth, PyData.depthAll] at r1 r2 r3 ⊢
  omega
/-! ### stands within bounds -/
structure StOk (ll : List (List Int)) (n : Nat) (t : Stand) : Prop where
  b1 : t.1.length = width ll
  b2 : ∀ z ∈ t.1, 0 ≤ z ∧ z ≤ ((n : Int) + 1) * 10000000000000000000000000000
  c1 : t.2.1.length = ll.length
  c2 : ∀ z ∈ t.2.1, 0 ≤ z ∧ z ≤ 300000000000000000000000000000 + 2 * (n : Int)
  l1 : t.2.2.length = width ll
  l2 : ∀ z ∈ t.2.2, 0 ≤ z ∧ z ≤ 300000000000000000000000000000 + (n : Int) * 10000000000000000000000000000
theorem StOk.mono {ll : List (List Int)} {n m : Nat} {t : Stand} (h : StOk ll n t) (hm : n ≤ m) : StOk ll m t := by
  obtain ⟨h1, h2, h3, h4, h5, h6⟩ := h
  refine ⟨h1, fun z hz => ?_, h3, fun z hz => ?_, h5, fun z hz => ?_⟩
  · have := h2 z hz; omega
  · have := h4 z hz; omega
  · have := h6 z hz; omega
theorem mem_subR {xs ys : List Int} {k z : Int} (hl : xs.length = ys.length) (h : z ∈ subR xs ys k) : ∃ x y, x ∈ xs ∧ y ∈ ys ∧ z = x - k * y := by
  obtain ⟨i, hi, e⟩ := List.mem_iff_getElem.mp h
  have hi' := hi
  rw [subR_len hl] at hi'
  have e1 : (subR xs ys k)[i]? = some z := by rw [List.getElem?_eq_getElem hi, e]
  rw [subR_at hi' (by omega)] at e1
  have h1 : xs.getD i 0 ∈ xs := by rw [List.getD_eq_getElem?_getD, List.getElem?_eq_getElem hi']; exact List.getElem_mem hi'
  have h2 : ys.getD i 0 ∈ ys := by rw [List.getD_eq_getElem?_getD, List.getElem?_eq_getElem (by omega : i < ys.length)]; exact List.getElem_mem _
  exact ⟨_, _, h1, h2, (Option.some.inj e1).symm⟩
theorem mem_setI {xs : List Int} {i : Nat} {t z : Int} (hi : i < xs.length) (h : z ∈ setI xs i t) : z ∈ xs ∨ ∃ x ∈ xs, z = x + t := by
  unfold setI at h
  rcases List.mem_append.mp h with h | h
  · rcases List.mem_append.mp h with h | h
    · exact .inl (List.mem_of_mem_take h)
    · rw [List.mem_singleton] at h
      refine .inr ⟨_, ?_, h⟩
      rw [List.getD_eq_getElem?_getD, List.getElem?_eq_getElem hi]
      exact List.getElem_mem hi
  · exact .inl (List.mem_of_mem_drop h)
theorem StOk.begin {ll : List (List Int)} {b : List Int} (h1 : b.length = width ll) (h2 : ∀ z ∈ b, 0 ≤ z ∧ z < 10000000000000000000000000000) : StOk ll 0 (b, List.replicate ll.length 0, b) := by
  refine ⟨h1, fun z hz => ?_, List.length_replicate, fun z hz => ?_, h1, fun z hz => ?_⟩
  · have := h2 z hz; omega
  · rw [List.eq_of_mem_replicate hz]; omega
  · have := h2 z hz; omega
theorem StOk.grow {ll : List (List Int)} {n : Nat} {t : Stand} {gs : List Int} (h : StOk ll n t) (g1 : gs.length = width ll) (g2 : ∀ z ∈ gs, 0 ≤ z ∧ z < 10000000000000000000000000000) : StOk ll (n + 1) (subR t.1 gs (-1), t.2.1, subR t.2.2 gs (-1)) := by
  obtain ⟨h1, h2, h3, h4, h5, h6⟩ := h
  refine ⟨by rw [subR_len (by omega)]; exact h1, fun z hz => ?_, h3, fun z hz => ?_, by rw [subR_len (by omega)]; exact h5, fun z hz => ?_⟩
  · obtain ⟨x, y, hx, hy, rfl⟩ := mem_subR (by omega) hz
    have := h2 x hx; have := g2 y hy; omega
  · have := h4 z hz; omega
  · obtain ⟨x, y, hx, hy, rfl⟩ := mem_subR (by omega) hz
    have := h6 x hx; have := g2 y hy; omega
theorem StOk.pack {ll : List (List Int)} {n : Nat} {t : Stand} {kd : Nat} {r : List Int} {m : Int} (h : StOk ll n t) (ef : flaw ll = none) (hr : ll[kd]? = some r) (m0 : 0 ≤ m) (m2 : m ≤ 2) (n1 : negI (setI t.2.1 kd m) = none) (n2 : negI (subR t.2.2 r m) = none) : StOk ll (n + 1) (t.1, setI t.2.1 kd m, subR t.2.2 r m) := by
  obtain ⟨h1, h2, h3, h4, h5, h6⟩ := h
  obtain ⟨hkd, -⟩ := List.getElem?_eq_some_iff.mp hr
  obtain ⟨r1, r2⟩ := flaw_rows ef r (List.mem_of_getElem? hr)
  refine ⟨h1, fun z hz => ?_, by rw [setI_len (by omega)]; exact h3, fun z hz => ?_, by rw [subR_len (by omega)]; exact h5, fun z hz => ?_⟩
  · have := h2 z hz; omega
  · have p := neg_none.mp n1 z hz
    rcases mem_setI (by omega) hz with e | ⟨x, hx, rfl⟩
    · have := h4 z e; omega
    · have := h4 x hx; omega
  · have p := neg_none.mp n2 z hz
    obtain ⟨x, y, hx, hy, rfl⟩ := mem_subR (by omega) hz
    have a := h6 x hx
    have b := r2 y hy
    have : 0 ≤ m * y := Int.mul_nonneg m0 (by omega)
    omega
theorem sm_ge : ∀ {n : Nat} {x : BL.Vec}, (∀ i, 0 ≤ x i) → 0 ≤ BL.sm n x ∧ ∀ i, i < n → x i ≤ BL.sm n x
  | 0, _, _ => ⟨Int.le_refl _, fun i hi => absurd hi (Nat.not_lt_zero _)⟩
  | n + 1, x, h => by
    obtain ⟨a, b⟩ := sm_ge (n := n) h
    have e : BL.sm (n + 1) x = BL.sm n x + x n := rfl
    have := h n
    refine ⟨by omega, fun i hi => ?_⟩
    by_cases c : i = n
    · rw [c]; omega
    · have := b i (by omega)
      omega
theorem sum3 {b : List Int} {B : Int} (hl : b.length ≤ 3) (h : ∀ z ∈ b, 0 ≤ z ∧ z ≤ B) : 0 ≤ b.sum ∧ b.sum ≤ 3 * B ∨ b = [] := by
  match b, hl, h with
  | [], _, _ => exact .inr rfl
  | [x], _, h =>
    have := h x List.mem_cons_self
    refine .inl ?_
    simp
    omega
  | [x, y], _, h =>
    have := h x List.mem_cons_self
    have := h y (List.mem_cons_of_mem _ List.mem_cons_self)
    refine .inl ?_
    simp
    omega
  | [x, y, z], _, h =>
    have := h x List.mem_cons_self
    have := h y (List.mem_cons_of_mem _ List.mem_cons_self)
    have := h z (List.mem_cons_of_mem _ (List.mem_cons_of_mem _ List.mem_cons_self))
    refine .inl ?_
    simp
    omega
  | _ :: _ :: _ :: _ :: _, hl, _ => simp at hl
theorem StOk.bb {ll : List (List Int)} {n : Nat} {t : Stand} (h : StOk ll n t) (hn : n ≤ 20) : ∀ z ∈ t.1, 0 ≤ z ∧ z < G30 := fun z hz => by
  have := h.b2 z hz
  have e30 : G30 = 1000000000000000000000000000000 := rfl
  omega
theorem StOk.fin {ll : List (List Int)} {n : Nat} {t : Stand} {ws x : List Int} (h : StOk ll n t) (hn : n ≤ 9) (ef : flaw ll = none) (eo : okWish ll.length ws = true) (I : IsBest ll t.1 (numI ll.length ws) x) : StOk ll n (t.1, x.take ll.length, x.drop ll.length) := by
  have Z := sit_bill ef eo h.b1 (h.bb (by omega))
  have hok := flaw_ok ef
  have xl := I.len
  have b1 := h.b1
  obtain ⟨s0, s1⟩ := sm_ge (n := ll.length + t.1.length) (x := vec x) I.ld.1
  have s2 := BL.sm_dg (g := t.1.length) Z.lot I.ld.1
  have e : BL.dgv ll t.1.length (vec x) = t.1.sum := by
    show BL.sm t.1.length (Bv ll t.1.length (vec x)) = _
    rw [I.bill]
    exact BL.sm_getD rfl
  have top : t.1.sum ≤ 300000000000000000000000000000 := by
    rcases sum3 (B := ((n : Int) + 1) * 10000000000000000000000000000) (by omega) h.b2 with h | h
    · omega
    · rw [h]; simp
  have all : ∀ z ∈ x, 0 ≤ z ∧ z ≤ 300000000000000000000000000000 := fun z hz => by
    obtain ⟨i, hi, e2⟩ := List.mem_iff_getElem.mp hz
    have ev : vec x i = z := vec_at (by rw [List.getElem?_eq_getElem hi, e2])
    have h1 := I.ld.1 i
    have h2 := s1 i (by omega)
    omega
  refine ⟨h.b1, h.b2, by show (x.take ll.length).length = _; rw [List.length_take]; omega, fun z hz => ?_, by show (x.drop ll.length).length = _; rw [List.length_drop]; omega, fun z hz => ?_⟩
  · have := all z (List.mem_of_mem_take hz); omega
  · have := all z (List.mem_of_mem_drop hz); omega
theorem StOk.neg1 {ll : List (List Int)} {n : Nat} {t : Stand} (h : StOk ll n t) : negI t.2.1 = none := neg_none.mpr fun z hz => (h.c2 z hz).1
theorem StOk.neg2 {ll : List (List Int)} {n : Nat} {t : Stand} (h : StOk ll n t) : negI t.2.2 = none := neg_none.mpr fun z hz => (h.l2 z hz).1
theorem StOk.sn {ll : List (List Int)} {n : Nat} {t : Stand} (h : StOk ll n t) (hn : n ≤ 20) : SmallN t.2.1 := fun z hz => by
  have := h.c2 z hz
  have e : (10 : Nat) ^ 30 = 1000000000000000000000000000000 := by decide
  omega
theorem StOk.sum {ll : List (List Int)} {n : Nat} {t : Stand} (h : StOk ll n t) (hn : n ≤ 20) (ef : flaw ll = none) : t.2.2.sum.natAbs < 10 ^ 32 := by
  have hok := flaw_ok ef
  have l1 := h.l1
  have e : (10 : Nat) ^ 32 = 100000000000000000000000000000000 := by decide
  rcases sum3 (by omega) h.l2 with q | q
  · omega
  · rw [q]; simp
/-! ### what is seen of a picker -/
structure SeenAt (lo wi : Addr) (ll : List (List Int)) (H : Hp) (a : Addr) (t : Stand) : Prop where
  ex : ∃ b c l : Addr, H a = some (.lst [.ref lo, .ref b, .ref wi, .ref c, .ref l, .int t.2.1.sum, .int (npos t.2.1 : Nat), .str (SX.S (rowL t.2.1)), .str (repP ll.length t.2.2.sum)]) ∧ IntsAt H b t.1 ∧ IntsAt H c t.2.1 ∧ IntsAt H l t.2.2
theorem SeenAt.kt {lo wi a : Addr} {ll : List (List Int)} {H H' : Hp} {t : Stand} (h : SeenAt lo wi ll H a t) (k : KT H H') (e : H' a = H a) : SeenAt lo wi ll H' a t := by
  obtain ⟨b, c, l, h1, h2, h3, h4⟩ := h
  exact ⟨b, c, l, by rw [e]; exact h1, ints_kt h2 k, ints_kt h3 k, ints_kt h4 k⟩
theorem seen_eqd {lo wi a a' : Addr} {las : List Addr} {ll : List (List Int)} {ws : List Int} {H : Hp} {t : Stand} (hR : RowsAt H lo las ll) (hW : IntsAt H wi ws) (wz : ws.length ≤ 1000) (hll : ll.length ≤ 1000) (hr : ∀ r ∈ ll, r.length ≤ 1000) (z1 : t.1.length ≤ 1000) (z2 : t.2.1.length ≤ 1000) (z3 : t.2.2.length ≤ 1000)
    (h : SeenAt lo wi ll H a t) (g : SeenAt lo wi ll H a' t) : Eqd H 3 (.ref a) (.ref a') := by
  obtain ⟨b, c, l, h1, h2, h3, h4⟩ := h
  obtain ⟨b', c', l', g1, g2, g3, g4⟩ := g
  have lo2 : Eqd H 2 (.ref lo) (.ref lo) := .inr ⟨lo, lo, _, _, rfl, rfl, .inr ⟨hR.1, hR.1⟩, rfl, by rw [List.length_map, hR.2.len]; exact hll, fun i x y e1 e2 => by
    rw [e1] at e2
    cases e2
    rw [List.getElem?_map] at e1
    cases e3 : las[i]? with
    | none => rw [e3] at e1; cases e1
    | some r0 =>
      rw [e3] at e1
      cases e1
      obtain ⟨r, hr1, hr2⟩ := hR.2.at e3
      exact eqd_ints (show IntsAt H r0 r from hr2) hr2 (hr r (List.mem_of_getElem? hr1))⟩
  refine .inr ⟨a, a', _, _, rfl, rfl, .inl ⟨h1, g1⟩, rfl, by show 9 ≤ 1000; decide, fun i x y e1 e2 => ?_⟩
  match i, e1, e2 with
  | 0, e1, e2 => cases e1; cases e2; exact lo2
  | 1, e1, e2 => cases e1; cases e2; exact eqd_ints h2 g2 z1
  | 2, e1, e2 => cases e1; cases e2; exact eqd_ints hW hW wz
  | 3, e1, e2 => cases e1; cases e2; exact eqd_ints h3 g3 z2
  | 4, e1, e2 => cases e1; cases e2; exact eqd_ints h4 g4 z3
  | 5, e1, e2 => cases e1; cases e2; exact .inl ⟨rfl, rfl⟩
  | 6, e1, e2 => cases e1; cases e2; exact .inl ⟨rfl, rfl⟩
  | 7, e1, e2 => cases e1; cases e2; exact .inl ⟨rfl, rfl⟩
  | 8, e1, e2 => cases e1; cases e2; exact .inl ⟨rfl, rfl⟩
  | n + 9, e1, e2 => cases e1
theorem scSo : FnScope ["_law_picker", "_law_found"] ["_law_picker"] (defScope sSeen) := ⟨rfl, rfl, rfl, by decide +kernel, rfl, by decide +kernel, by decide +kernel⟩
/-! ### == of two pickers -/
structure PkEq (K : PySem.W.Frag) (C : Addr) : Prop where
  ha : PySem.W.findIn K (.ref C) "__class__" = some (some (.builtin "object.__class__"))
  hn : PySem.W.specialIn K (.builtin "object.__class__") "__get__" = some (some (.builtin "getset_descriptor.__get__"))
  htk : PySem.W.takesIn K (.builtin "object.__class__") = some true
  hm : PySem.W.mroIn K C (.type "object") = some true
  ne : PySem.W.findIn K (.ref C) "__ne__" = some (some (.builtin "object.__ne__"))
  ic : PySem.W.isClsIn K C = true
  tc : PySem.W.typeIn K (.ref C) = some (.type "type")
theorem kit_of_sub {K : PySem.W.Frag} {C : Addr} (E : PkEq K C) {T : String} (h : PySem.W.subIn K (.type T) (.ref C) = some false) : PySem.W.kitOne K (.type T) (.ref C) = some false := by
  have n : ¬ ((Value.type T == Value.ref C) = true) := by simp
  unfold PySem.W.kitOne PySem.W.kitCls
  rw [if_neg n]
  have e2 : ((PySem.W.clsIn K C).isSome && PySem.W.typeIn K (.ref C) == some (.type "type")) = true := by
    have h2' : (PySem.W.clsIn K C).isSome = true := E.ic
    rw [h2', E.tc] <;> rfl
  dsimp only
  rw [if_pos e2]
  exact h
theorem scPEq : FnScope ["self", "other"] ["self", "other"] (defScope (sP 24)) := ⟨rfl, rfl, rfl, by decide +kernel, rfl, by decide +kernel, by decide +kernel⟩
theorem andB {a : Bool} {P : Prop} (h : a = false → P) (g : a = true → P) : P := by cases a; exact h rfl; exact g rfl
section
variable {P : Program} {w : World} {K : PySem.W.Frag} {mg : Str → Option Value} {base : Heap}
/-- what is compared with a picker -/
def EqRh (K : PySem.W.Frag) (C : Addr) (H : Hp) (k : Pk) (ll : List (List Int)) (ws : List Int) (y : V) (r : Bool) : Prop :=
  (∃ b xs, y = .ref b ∧ H b = some (.tup xs) ∧ r = false) ∨ (∃ z, y = .str z ∧ r = false) ∨
  ∃ (p2 : Addr) (k2 : Pk) (pB fB : Addr) (ll2 : List (List Int)) (ws2 : List Int), y = .ref p2 ∧ PkAt C H p2 k2 pB fB ∧ LotW K ll2 ws2 H k2 ∧ r = decide (ll = ll2 ∧ ws = ws2 ∧ k.st = k2.st)
def spPEq (K : PySem.W.Frag) (C : Addr) : Sp := fun vs H Q _ => ∃ (p : Addr) (y : V) (k : Pk) (pA fA : Addr) (ll : List (List Int)) (ws : List Int) (r : Bool), vs = [.ref p, y] ∧ PkAt C H p k pA fA ∧ LotW K ll ws H k ∧ EqRh K C H k ll ws y r ∧ Q (.bl r) H
theorem ok_pEq {f C : Addr} {fd : FuncData} {n : Nat} (F : Fun K "__eq__" "Picker.__eq__" (sP 24) f fd) (B : Bl mg) (T : PkTxt K mg C) (E : PkEq K C) : FnOk P w K mg base CX0 (n + 1) f fd ["self", "other"] (spPEq K C) := by
  refine F.ok scPEq (fun vs H Q E h => ?_) (fun cdv A outer s H vs Q E' hr h => ?_)
  · obtain ⟨p, y, k, pA, fA, ll, ws, r, rfl, _⟩ := h
    rfl
  · obtain ⟨p, y, k, pA, fA, ll, ws, r, rfl, hP, ⟨⟨las, hR⟩, hW⟩, hE, q⟩ := h
    refine ⟨_, pss_one (ps_ret (pe_and (pe_callB call_isi (by rfl) B.isinstance (by decide +kernel) (pa_cons (pv 1) (pa_cons (pe_glob (v := .ref C) rfl T.mgC rfl) pa_nil)))
      (pe_and (pe_cmpR (op_eqD hr.units) (pe_fld (pv 0) rfl) (pe_fld (pv 1) rfl) (nomark _)) (pe_and (pe_cmpR (op_eqD hr.units) (pe_fld (pv 0) rfl) (pe_fld (pv 1) rfl) (nomark _)) (pe_one (pe_cmpR (op_eqD hr.units) (pe_fld (pv 0) rfl) (pe_fld (pv 1) rfl) (nomark _))))))), ?_⟩
    obtain ⟨dx, s', h1, h2⟩ := hP.ob
    rcases hE with ⟨b, xs, rfl, hb, rfl⟩ | ⟨z, rfl, rfl⟩ | ⟨p2, k2, pB, fB, ll2, ws2, rfl, hP2, ⟨⟨las2, hR2⟩, hW2⟩, er⟩
    · refine ⟨.ref b, rfl, .ref b, .ref C, .type "tuple", .ref C, false, rfl, .own C, .base (.tup hb), kit_of_sub E sub_tup, ?_⟩
      exact ⟨_, rfl, q⟩
    · refine ⟨.str z, rfl, .str z, .ref C, .type "str", .ref C, false, rfl, .own C, .base (.str z), kit_of_sub E sub_str, ?_⟩
      exact ⟨_, rfl, q⟩
    · obtain ⟨dx2, s2', g1, g2⟩ := hP2.ob
      refine ⟨.ref p2, rfl, .ref p2, .ref C, .ref C, .ref C, true, rfl, .own C, .base (.ins g1 T.cl E.ha E.hn E.htk E.hm), (by unfold PySem.W.kitOne; simp), ?_⟩
      refine ⟨_, rfl, ?_⟩
      refine ⟨.ref p, rfl, p, C, dx, _, _, rfl, h1, T.cl, T.nL, pk_lot, .ref p2, rfl, p2, C, dx2, _, _, rfl, g1, T.cl, T.nL, pk_lot, lotD ll, lotD ll2, dp_lot hR, dp_lot hR2, lotD_shaped _, lotD_shaped _, ?_⟩
      rw [lotD_eqv]
      refine ⟨_, rfl, ite2 (fun c1 => ?_) (fun c1 => ?_)⟩
      · refine ⟨.ref p, rfl, p, C, dx, _, _, rfl, h1, T.cl, T.nW, pk_wish, .ref p2, rfl, p2, C, dx2, _, _, rfl, g1, T.cl, T.nW, pk_wish, .tuple (ws.map .int), .tuple (ws2.map .int), .tup hW (dq_ints _), .tup hW2 (dq_ints _), row_shaped _, row_shaped _, ?_⟩
        rw [dq_eqv]
        refine ⟨_, rfl, ite2 (fun c2 => ?_) (fun c2 => ?_)⟩
        · refine ⟨.ref p, rfl, p, C, dx, _, _, rfl, h1, T.cl, T.nS, pk_stand, .ref p2, rfl, p2, C, dx2, _, _, rfl, g1, T.cl, T.nS, pk_stand, stD k.st, stD k2.st, dp_st h2, dp_st g2, stD_shaped _, stD_shaped _, ?_⟩
          rw [stD_eqv]
          rw [er] at q
          have e : decide (ll = ll2 ∧ ws = ws2 ∧ k.st = k2.st) = decide (k.st = k2.st) := by
            have d1 := of_decide_eq_true c1
            have d2 := of_decide_eq_true c2
            simp [d1, d2]
          rw [e] at q
          exact q
        · have e : r = false := by rw [er]; exact decide_eq_false fun z => c2 (decide_eq_true z.2.1)
          rw [e] at q
          exact q
      · have e : r = false := by rw [er]; exact decide_eq_false fun z => c1 (decide_eq_true z.1)
        rw [e] at q
        exact q
/-- what the law takes of a picker -/
structure PkM (P : Program) (w : World) (K : PySem.W.Frag) (mg : Str → Option Value) (base : Heap) (C C0 CB CW : Addr) : Prop where
  TP : PkTxt K mg C
  lt : MCal P w K mg base CX0 1 C "lot" ["self"] (spPLot C)
  bl : MCal P w K mg base CX0 1 C "bill" ["self"] (spBill C)
  ws : MCal P w K mg base CX0 1 C "wish" ["self"] (spPWish C)
  cn : MCal P w K mg base CX0 1 C "counts" ["self"] (spCnt C)
  lo : MCal P w K mg base CX0 1 C "loose" ["self"] (spLoose C)
  ha : MCal P w K mg base CX0 2 C "hampers" ["self"] (spPHam C)
  ln : MCal P w K mg base CX0 2 C "__len__" ["self"] (spPLen C)
  sr : MCal P w K mg base CX0 2 C "__str__" ["self"] (spPStr K C)
  rp : MCal P w K mg base CX0 2 C "__repr__" ["self"] (spPRep C)
  lf : MCal P w K mg base CX0 1 C "left" ["self"] (spLeft C)
  ib : MCal P w K mg base (L2.CX P w) 8 C "is_best" ["self"] (spIsB K C)
  eq : MCal P w K mg base CX0 1 C "__eq__" ["self", "other"] (spPEq K C)
  EQ : PkEq K C
  pi : ∃ (f : Addr) (fd : FuncData) (T0 : Addr), FnOk P w K mg base (L2.CX P w) 6 f fd ["self", "lot", "bill", "wish"] (spPInit K C C0 CB CW) ∧ Mk K C f ∧ KBn K fd ["self", "lot", "bill", "wish"] 3 ["wish"] (fun us ws => us ++ ws) (fun vs zs => vs ++ zs) ∧
    KBn K fd ["self", "lot", "bill", "wish"] 1 ["wish", "bill", "lot"] (fun us ws => us ++ ws.reverse) (fun vs zs => vs ++ zs.reverse) ∧ Binds K fd ["self", "lot", "bill", "wish"] [.ref T0] ∧ ∀ H, IT K H T0 []
def spSeen (C : Addr) : Sp := fun vs H Q _ => ∃ (p : Addr) (k : Pk) (pA fA : Addr) (as : List Addr) (ll : List (List Int)) (n : Nat), vs = [.ref p] ∧ PkAt C H p k pA fA ∧ RowsAt H k.lo as ll ∧ flaw ll = none ∧ StOk ll n k.st ∧ n ≤ 20 ∧ ∀ H' a, Same H H' → H a = none → SeenAt k.lo k.wi ll H' a k.st → Q (.ref a) H'
theorem ok_seenOf {f C C0 CB CW : Addr} {fd : FuncData} (F : Fun K "_law_seen_of" "_law_seen_of" sSeen f fd) (B : Bl mg) (mr : mg "repr" = none) (M : PkM P w K mg base C C0 CB CW) : FnOk P w K mg base CX0 6 f fd ["_law_picker"] (spSeen C) := by
  have TP := M.TP
  obtain ⟨fLt, fdLt, GLt, mLt, bLt⟩ := M.lt
  obtain ⟨fBl, fdBl, GBl, mBl, bBl⟩ := M.bl
  obtain ⟨fWs, fdWs, GWs, mWs, bWs⟩ := M.ws
  obtain ⟨fCn, fdCn, GCn, mCn, bCn⟩ := M.cn
  obtain ⟨fLo, fdLo, GLo, mLo, bLo⟩ := M.lo
  obtain ⟨fHa, fdHa, GHa, mHa, bHa⟩ := M.ha
  obtain ⟨fLn, fdLn, GLn, mLn, bLn⟩ := M.ln
  obtain ⟨fSr, fdSr, GSr, mSr, bSr⟩ := M.sr
  obtain ⟨fRp, fdRp, GRp, mRp, bRp⟩ := M.rp
  refine F.ok scSo (fun vs H Q E h => ?_) (fun cdv A outer s H vs Q E hr h => ?_)
  · obtain ⟨p, k, pA, fA, as, ll, n, rfl, _⟩ := h
    rfl
  · obtain ⟨p, k, pA, fA, as, ll, n, rfl, hP, hR, ef, so, hn, q⟩ := h
    refine ⟨_, pss_cons (ps_set (i := 1) scSo.nd rfl (.inl rfl) (pe_lst (pa_cons (pe_meth0 (pv 0) TP.cl mLt GLt (hr.mono (by decide)) bLt .nil pass0) (pa_cons (pe_meth0 (pv 0) TP.cl mBl GBl (hr.mono (by decide)) bBl .nil pass0) (pa_cons (pe_meth0 (pv 0) TP.cl mWs GWs (hr.mono (by decide)) bWs .nil pass0) (pa_cons (pe_meth0 (pv 0) TP.cl mCn GCn (hr.mono (by decide)) bCn .nil pass0) (pa_cons (pe_meth0 (pv 0) TP.cl mLo GLo (hr.mono (by decide)) bLo .nil pass0) pa_nil)))))))
      (pss_one (ps_ret (pe_op op_cat (pv 1) (pe_lst (pa_cons (pe_meth0 (pv 0) TP.cl mHa GHa (hr.mono (by decide)) bHa .nil pass0) (pa_cons (pe_callB (call_lenO (E := fun _ _ _ => False) GLn mLn.at_ mLn.fn bLn (hr.mono (by decide)) pass0) (by rfl) B.len PySem.boot_len (pa_cons (pv 0) pa_nil)) (pa_cons (pe_callTy (call_strO (E := fun _ _ _ => False) GSr mSr.at_ mSr.fn bSr (hr.mono (by decide)) pass0) (by rfl) B.str (by decide +kernel) (pa_cons (pv 0) pa_nil)) (pa_cons (pe_callB (call_reprO (E := fun _ _ _ => False) GRp mRp.at_ mRp.fn bRp (hr.mono (by decide)) pass0) (by rfl) mr (by decide +kernel) (pa_cons (pv 0) pa_nil)) pa_nil)))))))), ?_⟩
    have hok := flaw_ok ef
    have c1 := so.c1
    have hlen := hR.2.len
    have nk : ll.length ≤ 100 := by omega
    obtain ⟨dx, s', h1, h2⟩ := id hP.ob
    refine ⟨.ref p, rfl, p, dx, _, rfl, h1, pk_none (by decide +kernel), nilA ⟨p, k, pA, fA, rfl, hP, ?_⟩⟩
    refine ⟨.ref p, rfl, p, dx, _, rfl, h1, pk_none (by decide +kernel), nilA ⟨p, k, pA, fA, rfl, hP, fun b hb => ?_⟩⟩
    refine ⟨.ref p, rfl, p, dx, _, rfl, h1, pk_none (by decide +kernel), nilA ⟨p, k, pA, fA, rfl, hP, ?_⟩⟩
    refine ⟨.ref p, rfl, p, dx, _, rfl, h1, pk_none (by decide +kernel), nilA ⟨p, k, pA, fA, rfl, hP, fun c hc => ?_⟩⟩
    refine ⟨.ref p, rfl, p, dx, _, rfl, h1, pk_none (by decide +kernel), nilA ⟨p, k, pA, fA, rfl, hP, fun l hl => ?_⟩⟩
    refine ⟨(by show 5 ≤ sizeLine; decide), fun u nu => ?_⟩
    have su := same_new (o := .lst [.ref k.lo, .ref b, .ref k.wi, .ref c, .ref l]) nu
    have eu : (upd H u (.lst [.ref k.lo, .ref b, .ref k.wi, .ref c, .ref l])) u = some (.lst [.ref k.lo, .ref b, .ref k.wi, .ref c, .ref l]) := upd_same
    have P1 := hP.same su
    have h11 := su _ _ h1
    generalize upd H u (.lst [.ref k.lo, .ref b, .ref k.wi, .ref c, .ref l]) = H1 at su eu P1 h11 ⊢
    refine ⟨.ref u, rfl, .ref p, rfl, p, dx, _, rfl, h11, pk_none (by decide +kernel), nilA ⟨p, k, pA, fA, rfl, P1, ?_⟩⟩
    refine ⟨.ref p, rfl, p, dx, _, rfl, h11, p, k, pA, fA, rfl, P1, by omega, fun H2 s2 => ⟨_, rfl, ⟨by omega, ?_⟩, ?_⟩⟩
    · have : npos k.st.2.1 ≤ k.st.2.1.length := List.length_filter_le _ _
      have : (100 : Int) < 2 ^ 63 := by decide
      omega
    have P2 := P1.same s2
    refine ⟨.ref p, rfl, p, dx, _, rfl, s2 _ _ h11, p, k, pA, fA, rfl, P2, by omega, so.sn hn, fun H3 s3 => ⟨_, rfl, ?_⟩⟩
    have P3 := P2.same s3
    have s23 := s2.trans s3
    have s03 := su.trans s23
    refine ⟨.ref p, rfl, p, dx, _, rfl, s23 _ _ h11, p, k, pA, fA, as, ll, rfl, P3, hR.same s03, nk, so.sum hn ef, ⟨_, rfl, ?_⟩⟩
    refine ⟨(by show 4 ≤ sizeLine; decide), fun v nv => ?_⟩
    have sv := same_new (o := .lst [.int k.st.2.1.sum, .int (npos k.st.2.1 : Nat), .str (SX.S (rowL k.st.2.1)), .str (repP ll.length k.st.2.2.sum)]) nv
    have s3v := s23.trans sv
    refine ⟨u, v, _, _, rfl, rfl, s3v _ _ eu, upd_same, (by show 9 ≤ sizeLine; decide), fun y ny => ?_⟩
    have sy := same_new (o := .lst ([.ref k.lo, .ref b, .ref k.wi, .ref c, .ref l] ++ [.int k.st.2.1.sum, .int (npos k.st.2.1 : Nat), .str (SX.S (rowL k.st.2.1)), .str (repP ll.length k.st.2.2.sum)])) ny
    have sA := s03.trans (sv.trans sy)
    have ny0 : H y = none := by
      cases e : H y with
      | none => rfl
      | some o =>
        have := (s03.trans sv) _ _ e
        rw [ny] at this
        cases this
    exact q _ y sA ny0 ⟨b, c, l, upd_same, hb.same sA, hc.same sA, hl.same sA⟩
/-! ### the law's own telling -/
theorem scNg : FnScope ["_law_many"] ["_law_many"] (defScope sNought) := ⟨rfl, rfl, rfl, by decide +kernel, rfl, by decide +kernel, by decide +kernel⟩
def spNg : Sp := fun vs H Q _ => ∃ n : Nat, vs = [.int (n : Nat)] ∧ 1 ≤ n ∧ n ≤ 100 ∧ ∀ H' z, Same H H' → IntsAt H' z (List.replicate n 0) → Q (.ref z) H'
theorem ok_ng {f : Addr} {fd : FuncData} {k : Nat} (F : Fun K "_law_noughts" "_law_noughts" sNought f fd) : FnOk P w K mg base CX0 (k + 1) f fd ["_law_many"] spNg := by
  refine F.ok scNg (fun vs H Q E h => ?_) (fun cdv A outer s H vs Q E hr h => ?_)
  · obtain ⟨n, rfl, _⟩ := h
    rfl
  · obtain ⟨n, rfl, n1, n2, q⟩ := h
    refine ⟨_, pss_one (ps_ret (pe_op op_repA (pe_tup (pa_cons pe_int pa_nil)) (pv 0))), ?_⟩
    refine ⟨sz_1 _, fun t1 nt1 => ?_⟩
    have st1 := same_new (o := .tup [.int 0]) nt1
    refine ⟨.int (n : Nat), rfl, ?_⟩
    exact rep1_read upd_same (by omega) (by omega) fun z H5 s5 hz => q H5 z (st1.trans s5) hz
theorem scR2 : FnScope ["_law_row", "_law_number"] ["_law_row"] (defScope sRowT2) := ⟨rfl, rfl, rfl, by decide +kernel, rfl, by decide +kernel, by decide +kernel⟩
theorem ok_rowText2 {f : Addr} {fd : FuncData} {k : Nat} (F : Fun K "_law_row_text" "_law_row_text" sRowT2 f fd) (B : Bl mg) : FnOk P w K mg base CX0 (k + 1) f fd ["_law_row"] (spRowText K) := by
  refine F.ok scR2 (fun vs H Q E h => ?_) (fun cdv A outer s H vs Q E hr h => ?_)
  · obtain ⟨p, ns, rfl, _⟩ := h
    rfl
  · obtain ⟨p, ns, rfl, hp, hz, hs, q⟩ := h
    refine ⟨_, pss_one (ps_ret (pe_join pe_str (pe_lc (own := [("_law_number", 1)]) (g := gName 1) (tt := tYes) rfl scR2.nd (pi_tup (pv 0))
          (blkOk_by (own := [("_law_number", 1)]) (N := ["_law_row", "_law_number"]) (sc := defScope sRowT2) (by decide +kernel)) (fun _ _ _ _ _ => pg_name (i := 1) scR2.nd rfl (Or.inl rfl)) (fun _ _ _ _ _ => pts_nil)
          (fun _ _ _ _ _ => pe_callTy call_str_int (by rfl) B.str (by decide +kernel) (pa_cons (pv 1) pa_nil))))), ?_⟩
    refine ⟨⟨_, rfl⟩, .ref p, rfl, p, rfl, ⟨_, hp⟩, fun D nD => ?_⟩
    refine lc_tup (K := K) (a := p) (xs := ns.map V.int) (fun i H' => Same H H' ∧ H' D = some (.lst ((((ns.map wr).map S).take i).map V.str))) ⟨same_new nD, upd_same⟩ (fun i H' _ ⟨sm, _⟩ => sqT_same hp sm) (fun i x H' hx ⟨sm, hD⟩ => ?_) (fun H' ⟨sm, hD⟩ => ?_)
    · obtain ⟨n, hn, rfl⟩ : ∃ n, ns[i]? = some n ∧ x = V.int n := by
        rw [List.getElem?_map] at hx
        cases e : ns[i]? with
        | none => rw [e] at hx; cases hx
        | some n => rw [e] at hx; exact ⟨n, rfl, (Option.some.inj hx).symm⟩
      refine ⟨rfl, yes (iteT ?_)⟩
      refine ⟨_, rfl, n, rfl, log_small (hs n (List.mem_of_getElem? hn)), _, hD, ?_, same_late sm nD, ?_⟩
      · rw [List.length_map]
        exact small1000 (Nat.le_trans (List.length_take_le' _ _) (by rw [List.length_map, List.length_map]; omega))
      · have e : ((ns.map wr).map S)[i]? = some (S (wr n)) := by rw [List.getElem?_map, List.getElem?_map, hn]; rfl
        rw [upd_same, List.take_add_one, e, List.map_append, ← tl_wr]
        rfl
    · have e : ((ns.map wr).map S).take (ns.map V.int).length = (ns.map wr).map S := List.take_of_length_le (by rw [List.length_map, List.length_map, List.length_map]; omega)
      rw [e] at hD
      refine ⟨_, D, _, rfl, rfl, .inl (SqL.of hD), sum_lens hs hz, ?_⟩
      rw [show Txt.join (Str.ofString ",") ((ns.map wr).map S) = S (rowL ns) by rw [st_comma]; exact join_row ns]
      exact q H' sm
theorem scDs : FnScope ["_law_mlot", "_law_mwish", "_law_state", "_law_mbill", "_law_counts", "_law_loose", "_law_found", "_law_name", "_law_many"] ["_law_mlot", "_law_mwish", "_law_state"] (defScope sDueS) := ⟨rfl, rfl, rfl, by decide +kernel, rfl, by decide +kernel, by decide +kernel⟩
def spDueS (K : PySem.W.Frag) : Sp := fun vs H Q _ => ∃ (lo wi s : Addr) (t : Stand) (as : List Addr) (ll : List (List Int)) (n : Nat), vs = [.ref lo, .ref wi, .ref s] ∧ RowsAt H lo as ll ∧ flaw ll = none ∧ StAt H s t ∧ StOk ll n t ∧ n ≤ 20 ∧ ∀ H' a, Same H H' → SeenAt lo wi ll H' a t → Q (.ref a) H'
theorem ok_dueS {f : Addr} {fd : FuncData} (F : Fun K "_law_due_seen" "_law_due_seen" sDueS f fd) (B : Bl mg) (CR : Cal P w K mg base CX0 1 "_law_row_text" ["_law_row"] (spRowText K)) : FnOk P w K mg base CX0 2 f fd ["_law_mlot", "_law_mwish", "_law_state"] (spDueS K) := by
  obtain ⟨fRt, fdRt, GRt, gRt, kRt, bRt⟩ := CR.ex
  refine F.ok scDs (fun vs H Q E h => ?_) (fun cdv A outer s H vs Q E hr h => ?_)
  · obtain ⟨lo, wi, s, t, as, ll, n, rfl, _⟩ := h
    rfl
  · obtain ⟨lo, wi, s, t, as, ll, n, rfl, hR, ef, hS, so, hn, q⟩ := h
    refine ⟨_, (pss_cons (ps_asg (pv 2) (pg_tup rfl (pgs_cons (pg_name (i := 3) scDs.nd rfl (.inl rfl)) (pgs_cons (pg_name (i := 4) scDs.nd rfl (.inl rfl)) (pgs_cons (pg_name (i := 5) scDs.nd rfl (.inl rfl)) pgs_nil)))))
      (pss_cons (ps_set (i := 6) scDs.nd rfl (.inl rfl) (pe_lst (pa_cons (pv 0) (pa_cons (pv 3) (pa_cons (pv 1) (pa_cons (pv 4) (pa_cons (pv 5) (pa_cons (pe_callB (cr_sumT rfl) (by rfl) B.sum (by decide +kernel) (pa_cons (pv 4) pa_nil)) (pa_cons (pe_callB call_len_seq (by rfl) B.len PySem.boot_len (pa_cons (pe_lc (own := [("_law_many", 8)]) (g := gName 8) rfl scDs.nd (pi_tup (pv 4))
        (blkOk_by (own := [("_law_many", 8)]) (N := ["_law_mlot", "_law_mwish", "_law_state", "_law_mbill", "_law_counts", "_law_loose", "_law_found", "_law_name", "_law_many"]) (sc := defScope sDueS) (by decide +kernel)) (fun _ _ _ _ _ => pg_name (i := 8) scDs.nd rfl (Or.inl rfl)) (fun _ _ _ _ _ => pts_one (pt_cmpR op_gt (pv 8) pe_int (nomark _)))
        (fun _ _ _ _ _ => (pv 8))) pa_nil)) pa_nil)))))))))
      (pss_cons (ps_set (i := 7) scDs.nd rfl (.inl rfl) (pe_op op_add_str (pe_op op_add_str (pe_op op_add_str (pe_op op_add_str pe_str (pe_callTy call_str_int (by rfl) B.str (by decide +kernel) (pa_cons (pe_callB call_len_seq (by rfl) B.len PySem.boot_len (pa_cons (pv 0) pa_nil)) pa_nil))) pe_str) (pe_callTy call_str_int (by rfl) B.str (by decide +kernel) (pa_cons (pe_callB (cr_sumT rfl) (by rfl) B.sum (by decide +kernel) (pa_cons (pv 5) pa_nil)) pa_nil))) pe_str))
      (pss_one (ps_ret (pe_op op_cat (pv 6) (pe_lst (pa_cons (pe_call GRt (hr.mono (by decide)) (by rfl) gRt kRt bRt .nil pass0 (pa_cons (pv 4) pa_nil)) (pa_cons (pv 7) pa_nil))))))))), ?_⟩
    have hok := flaw_ok ef
    have c1 := so.c1
    have hlen := hR.2.len
    obtain ⟨b, c, l, h1, hb, hc, hl⟩ := hS
    refine ⟨.ref s, rfl, s, _, rfl, SqT.of h1, rfl, _, _, rfl, _, _, rfl, _, _, rfl, rfl, ?_⟩
    have hz : t.2.1.length ≤ 100 := by omega
    have b1 : (Str.ofString "Picker(").length = 7 := by decide +kernel
    have b2 : (Str.ofString " kinds, ").length = 8 := by decide +kernel
    have b3 : (Str.ofString " loose)").length = 7 := by decide +kernel
    have sl : (1000 : Nat) ≤ sizeLine := by decide
    have n1 : ((ll.length : Nat) : Int).natAbs < 10 ^ 32 := by
      have : (100 : Nat) < 10 ^ 32 := by decide
      omega
    have ns := so.sum hn ef
    have m1 := num_len n1
    have m2 := num_len ns
    have z0 : Str.empty.length = 0 := rfl
    refine ⟨.ref lo, rfl, .ref b, rfl, .ref wi, rfl, .ref c, rfl, .ref l, rfl, .ref c, rfl, c, _, rfl, SqT.of hc, .ref c, rfl, c, rfl, ⟨_, SqT.of hc⟩, fun D nD => ?_⟩
    refine lc_tup (K := K) (a := c) (xs := t.2.1.map V.int) (fun i H' => Same H H' ∧ H' D = some (.lst (((t.2.1.take i).filter fun n => decide (n > 0)).map V.int))) ⟨same_new nD, upd_same⟩ (fun i H' _ hP' => SqT.of (hc.same hP'.1)) (fun i x H' hx ⟨sm, hD⟩ => ?_) (fun H' ⟨sm, hD⟩ => ?_)
    · obtain ⟨n, hn, rfl⟩ : ∃ n, t.2.1[i]? = some n ∧ x = V.int n := by
        rw [List.getElem?_map] at hx
        cases e : t.2.1[i]? with
        | none => rw [e] at hx; cases hx
        | some n => rw [e] at hx; exact ⟨n, rfl, (Option.some.inj hx).symm⟩
      have em : ((t.2.1.take (i + 1)).filter fun n => decide (n > 0)) = ((t.2.1.take i).filter fun n => decide (n > 0)) ++ if decide (n > 0) = true then [n] else [] := by
        rw [List.take_add_one, hn, List.filter_append]
        congr 1
        show List.filter _ [n] = _
        rw [List.filter_cons, List.filter_nil]
      refine ⟨rfl, .int n, rfl, _, _, rfl, rfl, _, rfl, ite2 (fun c1 => ?_) (fun c1 => ?_)⟩
      · refine ⟨.int n, rfl, _, hD, ?_, same_late sm nD, ?_⟩
        · rw [List.length_map]
          exact small1000 (Nat.le_trans (List.length_filter_le _ _) (Nat.le_trans (List.length_take_le' _ _) (by omega)))
        · rw [upd_same, em, if_pos c1, List.map_append]
          rfl
      · refine ⟨sm, ?_⟩
        rw [em, if_neg c1, List.append_nil]
        exact hD
    · rw [List.length_map, List.take_length] at hD
      refine ⟨D, _, rfl, .inl (SqL.of hD), ?_⟩
      rw [List.length_map]
      rw [show (List.filter (fun n => decide (n > 0)) t.2.1).length = npos t.2.1 from rfl]
      refine ⟨(by show 7 ≤ sizeLine; decide), fun u nu => ?_⟩
      have su := same_new (o := .lst [.ref lo, .ref b, .ref wi, .ref c, .ref l, .int t.2.1.sum, .int (npos t.2.1 : Nat)]) nu
      have hR2 := (hR.same sm).same su
      have hl2 := (hl.same sm).same su
      have hc2 := (hc.same sm).same su
      have hb2 := (hb.same sm).same su
      have s0u := sm.trans su
      have eu : (upd H' u (.lst [.ref lo, .ref b, .ref wi, .ref c, .ref l, .int t.2.1.sum, .int (npos t.2.1 : Nat)])) u = some (.lst [.ref lo, .ref b, .ref wi, .ref c, .ref l, .int t.2.1.sum, .int (npos t.2.1 : Nat)]) := upd_same
      have eq0 : H' = H' := rfl
      generalize upd H' u (.lst [.ref lo, .ref b, .ref wi, .ref c, .ref l, .int t.2.1.sum, .int (npos t.2.1 : Nat)]) = H2 at su hR2 hl2 hc2 hb2 s0u eu ⊢
      refine ⟨.ref lo, rfl, lo, _, rfl, .inr (SqT.of hR2.1), _, rfl, ?_, _, _, rfl, rfl, ?_, _, _, rfl, rfl, ?_, .ref l, rfl, l, _, rfl, SqT.of hl2, _, rfl, ?_, _, _, rfl, rfl, ?_, _, _, rfl, rfl, ?_, ?_⟩
      · rw [List.length_map, hlen]; exact log_small2 n1
      · rw [List.length_map, hlen, b1]; omega
      · rw [List.length_map, hlen, Str.length_append, b1, b2]; omega
      · exact log_small2 ns
      · rw [List.length_map, hlen, Str.length_append, Str.length_append, b1, b2]; omega
      · rw [List.length_map, hlen, Str.length_append, Str.length_append, Str.length_append, b1, b2, b3]; omega
      rw [List.length_map, hlen]
      refine ⟨.ref u, rfl, .ref c, rfl, c, t.2.1, rfl, SqT.of hc2, hz, so.sn hn, fun H3 s3 => ⟨_, rfl, (by show 2 ≤ sizeLine; decide), fun v nv => ?_⟩⟩
      have ee : ((((Str.ofString "Picker(" ++ Str.ofString (toString ((ll.length : Nat) : Int))) ++ Str.ofString " kinds, ") ++ Str.ofString (toString t.2.2.sum)) ++ Str.ofString " loose)") = repP ll.length t.2.2.sum := by
        have e0 : ∀ x : Str, Str.empty ++ x = x := fun x => TL.ext_tl (by rw [TL.tl_append]; rfl)
        unfold repP
        rw [e0]
      rw [ee]
      have sv := same_new (o := .lst [.str (SX.S (rowL t.2.1)), .str (repP ll.length t.2.2.sum)]) nv
      refine ⟨u, v, _, _, rfl, rfl, (s3.trans sv) _ _ eu, upd_same, (by show 9 ≤ sizeLine; decide), fun y ny => ?_⟩
      have sy := same_new (o := .lst ([.ref lo, .ref b, .ref wi, .ref c, .ref l, .int t.2.1.sum, .int (npos t.2.1 : Nat)] ++ [.str (SX.S (rowL t.2.1)), .str (repP ll.length t.2.2.sum)])) ny
      have s9 := s3.trans (sv.trans sy)
      exact q _ y (s0u.trans s9) ⟨b, c, l, upd_same, hb2.same s9, hc2.same s9, hl2.same s9⟩
end
end HL

set_option pp.maxSteps 1500
namespace HL
open PySem PySem.Spec PyProof.Rows L2
open LamX (CodeO Tabs TabS TabB ExtN tLam LamS lamS_by lamCx lamEnv codeO_ne)
section
variable {H H' : Hp}
theorem ext_kt (e : ExtN H H') : KT H H' := fun a xs h => e _ _ h (fun ps z => by cases z)
theorem kt_kp {cf fe : Addr} (F : FeedAt cf H fe) (k : Kp fe H H') : KT H H' := fun a xs e => k _ _ (F.tup e) e
theorem Kp.kx {fe : Addr} (k : Kp fe H H') : Kx [fe] H H' := fun a o e n => k _ _ (by simpa using n) e
theorem PkAt.ext {C pk pA fA : Addr} {k : Pk} (h : PkAt C H pk k pA fA) (e : ExtN H H') : PkAt C H' pk k pA fA := by
  obtain ⟨⟨dx, s, h1, h2⟩, ⟨as, h3, h4⟩, ⟨bs, h5, h6⟩, h7⟩ := h
  exact ⟨⟨dx, s, e _ _ h1 (fun ps z => by cases z), h2.kt (ext_kt e)⟩, ⟨as, e _ _ h3 (fun ps z => by cases z), h4.kt (ext_kt e)⟩, ⟨bs, e _ _ h5 (fun ps z => by cases z), h6.kt (ext_kt e)⟩, h7⟩
theorem PkAt.kp {C pk pA fA cf fe : Addr} {k : Pk} (h : PkAt C H pk k pA fA) (F : FeedAt cf H fe) (m : Kp fe H H') (n1 : pA ≠ fe) (n2 : fA ≠ fe) : PkAt C H' pk k pA fA := by
  refine h.kx m.kx (kt_kp F m) ?_ (by simpa using n1) (by simpa using n2)
  obtain ⟨ns, i, b, m, n, g1, _⟩ := F
  obtain ⟨dx, s, h1, _⟩ := h.ob
  simp only [List.mem_singleton]
  exact ne_of h1 g1 (fun z => by cases z)
theorem FeedAt.kx {cf fe : Addr} {A : List Addr} (F : FeedAt cf H fe) (x : Kx A H H') (n1 : fe ∉ A) (n2 : cf ∉ A) : FeedAt cf H' fe := by
  obtain ⟨ns, i, b, m, n, h1, h2, h3⟩ := F
  exact ⟨ns, i, b, m, n, x _ _ h1 n1, x _ _ h2 n2, h3⟩
theorem tabs_kx {T : List (Addr × Str)} {A : List Addr} (t : Tabs T H) (x : Kx A H H') (hA : ∀ a ∈ A, (∀ ps, H a ≠ some (.tbl ps)) ∧ ∀ q, H a ≠ some (CodeO a q)) : Tabs T H' := fun p hp => by
  obtain ⟨ps, h1, h2, h3⟩ := t p hp
  refine ⟨ps, x _ _ h1 (fun z => (hA _ z).1 _ h1), h2, fun pos cv hc => ?_⟩
  obtain ⟨c0, e1, e2⟩ := h3 pos cv hc
  exact ⟨c0, e1, x _ _ e2 (fun z => (hA _ z).2 _ e2)⟩
theorem PkAt.notab {C pk pA fA : Addr} {k : Pk} (h : PkAt C H pk k pA fA) : ∀ a ∈ [pk, pA], (∀ ps, H a ≠ some (.tbl ps)) ∧ ∀ q, H a ≠ some (CodeO a q) := fun a ha => by
  obtain ⟨⟨dx, s, h1, h2⟩, ⟨as, h3, h4⟩, _⟩ := h
  rcases List.mem_cons.mp ha with rfl | ha
  · rw [h1]
    refine ⟨(fun ps z => by cases z), fun q z => ?_⟩
    unfold CodeO at z
    cases z
  · rw [List.mem_singleton.mp ha, h3]
    refine ⟨(fun ps z => by cases z), fun q z => ?_⟩
    unfold CodeO at z
    cases z
end
theorem RowsAt.ext {H H' : Hp} {p : Addr} {as : List Addr} {ll : List (List Int)} (h : RowsAt H p as ll) (e : ExtN H H') : RowsAt H' p as ll := rowsAt_kt h (ext_kt e)
/-! ### lots bent -/
theorem width_app {ll mm : List (List Int)} (h : 1 ≤ ll.length) : width (ll ++ mm) = width ll := by
  cases ll with
  | nil => simp at h
  | cons r rs => rfl
theorem flaw_bad {ll : List (List Int)} (ef : flaw ll = none) : flaw (ll ++ [[]]) ≠ none := fun h => by
  have hok := flaw_ok ef
  have e := (flaw_rows h [] (by simp)).1
  rw [width_app hok.1] at e
  simp at e
  omega
theorem flaw_same {ll : List (List Int)} {r : List Int} (ef : flaw ll = none) (h5 : ll.length ≤ 4) (hr : r ∈ ll) : flaw (ll ++ [r]) = none := by
  have hok := flaw_ok ef
  have hw := width_app (mm := [r]) hok.1
  unfold flaw
  rw [if_pos ⟨by simp, by simp; omega, by rw [hw]; omega, by rw [hw]; omega⟩]
  exact flawIn_none fun j r' hj hjr => by
    rw [hw]
    rcases List.mem_append.mp (List.mem_of_getElem? hjr) with h | h
    · exact okRow_all ef r' h
    · rw [List.mem_singleton.mp h]
      exact okRow_all ef r hr
theorem okW_zero {n : Nat} : okWish n (List.replicate n 0) = true := by
  unfold okWish
  simp only [Bool.or_eq_true, Bool.and_eq_true, decide_eq_true_eq, List.all_eq_true]
  exact .inr ⟨List.length_replicate, fun z hz => by rw [List.eq_of_mem_replicate hz]; decide⟩
theorem okW_nil {n : Nat} : okWish n [] = true := by unfold okWish; simp
theorem okW_bad {n : Nat} (h : 1 ≤ n) : okWish n (List.replicate n 100) = false := by
  unfold okWish
  cases n with
  | zero => omega
  | succ n =>
    rw [List.replicate_succ]
    simp
theorem wrong_ne {g : Nat} {b : List Int} (h : b.length ≠ g) : wrong (g : Nat) b ≠ none := fun e => by
  rw [wrong_len (fun z => h (by omega))] at e
  cases e
theorem IT.ext {K : PySem.W.Frag} {H H' : Hp} {v : Addr} {ws : List Int} (h : IT K H v ws) (e : ExtN H H') : IT K H' v ws := by
  rcases h with (h | ⟨o, h⟩) | h
  · exact .inl (.inl (e _ _ h (fun ps z => by cases z)))
  · exact .inl (.inr ⟨o, e _ _ h (fun ps z => by cases z)⟩)
  · exact .inr h
/-! ### a picker made -/
section
variable {K : PySem.W.Frag} {C C0 CB CW : Addr} {H : Hp} {lo bl wi x dy : Addr} {las : List Addr} {ll : List (List Int)} {b ws : List Int}
theorem mk_read {Q : Hp → Prop} {E : XK} (R : RowsAt H lo las ll) (ef : flaw ll = none) (Bb : IntsAt H bl b) (hbl : b.length = width ll) (hbb : ∀ z ∈ b, 0 ≤ z ∧ z < G30) (W : IT K H wi ws) (eo : okWish ll.length ws = true) (hwz : ws.length ≤ 100) (nx : H x = none) (ny : H dy = none) (nyx : dy ≠ x)
    (q : ∀ H' pA fA, Same H H' → H pA = none → H fA = none → PkAt C H' x ⟨lo, wi, (b, List.replicate ll.length 0, b), [], [], .non⟩ pA fA → Q H') : spPInit K C C0 CB CW [.ref x, .ref lo, .ref bl, .ref wi] (upd (upd H dy (.own x)) x (.ins C dy [])) (fun v H' => v = .non ∧ Q H') E := by
  have hok := flaw_ok ef
  have sA := same_new (o := .own x) ny
  have nx' : (upd H dy (.own x)) x = none := by rw [upd_ne (fun z => nyx z.symm)]; exact nx
  have sB := same_new (o := .ins C dy []) nx'
  have s0 := sA.trans sB
  have ew := wrong_of hbl hbb
  have ox : (upd (upd H dy (.own x)) x (.ins C dy [])) x = some (.ins C dy []) := upd_same
  generalize upd (upd H dy (.own x)) x (.ins C dy []) = H6 at s0 ox ⊢
  refine ⟨x, dy, lo, bl, wi, las, ll, b, ws, rfl, ox, ⟨R.same s0, by omega, fun r hr => by have := (flaw_rows ef r hr).1; omega⟩, Bb.same s0, by omega, W.same s0, hwz, (fun kk hk => by rw [ef] at hk; cases hk), (fun _ hw => absurd ew hw), (fun _ _ ho => by rw [eo] at ho; cases ho), fun _ _ _ H7 pX fX x7 t7 npX nfX P7 => ⟨rfl, ?_⟩⟩
  have s7 : Same H H7 := fun a o e => x7 a o (s0 _ _ e) (fun z => by rw [List.mem_singleton.mp z, nx] at e; cases e)
  exact q H7 pX fX s7 (s0.free npX) (s0.free nfX) P7
/-- refused: the word told -/
theorem mk_bad {Q : VK} {E : XK} (R : RowsAt H lo las ll) (hl : ll.length ≤ 100) (hr : ∀ r ∈ ll, r.length ≤ 100) (Bb : IntsAt H bl b) (hbz : b.length ≤ 100) (W : IT K H wi ws) (hwz : ws.length ≤ 100) (nx : H x = none) (ny : H dy = none) (nyx : dy ≠ x)
    (h : (flaw ll ≠ none ∧ ∀ H', Same H H' → RefW C0 "bad lot" H' E) ∨ (flaw ll = none ∧ wrong (width ll : Nat) b ≠ none ∧ ∀ H', Same H H' → RefW CB "bad bill" H' E) ∨ (flaw ll = none ∧ wrong (width ll : Nat) b = none ∧ okWish ll.length ws = false ∧ ∀ H', Same H H' → RefW CW "bad wish" H' E)) :
    spPInit K C C0 CB CW [.ref x, .ref lo, .ref bl, .ref wi] (upd (upd H dy (.own x)) x (.ins C dy [])) Q E := by
  have sA := same_new (o := .own x) ny
  have nx' : (upd H dy (.own x)) x = none := by rw [upd_ne (fun z => nyx z.symm)]; exact nx
  have sB := same_new (o := .ins C dy []) nx'
  have s0 := sA.trans sB
  have ox : (upd (upd H dy (.own x)) x (.ins C dy [])) x = some (.ins C dy []) := upd_same
  generalize upd (upd H dy (.own x)) x (.ins C dy []) = H6 at s0 ox ⊢
  refine ⟨x, dy, lo, bl, wi, las, ll, b, ws, rfl, ox, ⟨R.same s0, hl, hr⟩, Bb.same s0, hbz, W.same s0, hwz, ?_, ?_, ?_, ?_⟩
  · intro kk hk
    rcases h with ⟨h1, h2⟩ | ⟨h1, _⟩ | ⟨h1, _⟩
    · exact h2 _ s0
    · rw [h1] at hk; cases hk
    · rw [h1] at hk; cases hk
  · intro h0 hw
    rcases h with ⟨h1, h2⟩ | ⟨h1, h2, h3⟩ | ⟨h1, h2, h3, h4⟩
    · exact absurd h0 h1
    · exact h3 _ s0
    · exact absurd h2 hw
  · intro h0 hw ho
    rcases h with ⟨h1, h2⟩ | ⟨h1, h2, h3⟩ | ⟨h1, h2, h3, h4⟩
    · exact absurd h0 h1
    · exact absurd hw h2
    · exact h4 _ s0
  · intro h0 hw ho
    rcases h with ⟨h1, h2⟩ | ⟨h1, h2, h3⟩ | ⟨h1, h2, h3, h4⟩
    · exact absurd h0 h1
    · exact absurd hw h2
    · rw [ho] at h3; cases h3
end
/-! ### the heap of the law -/
structure X2 (C fe cf p wz bl pk pA fA : Addr) (las : List Addr) (ll : List (List Int)) (ws b : List Int) (T : List (Addr × Str)) (H : Hp) : Prop where
  F : FeedAt cf H fe
  TB : LamX.Tabs T H
  R : RowsAt H p las ll
  W : IntsAt H wz ws
  Bb : IntsAt H bl b
  P : PkAt C H pk ⟨p, wz, (b, List.replicate ll.length 0, b), [], [], .non⟩ pA fA
/-- another picker, and whether it is like -/
def OkO (K : PySem.W.Frag) (C : Addr) (H : Hp) (ll : List (List Int)) (ws : List Int) (st : Stand) (o : Addr) (r : Bool) : Prop := ∃ (k2 : Pk) (pB fB : Addr) (ll2 : List (List Int)) (ws2 : List Int), PkAt C H o k2 pB fB ∧ LotW K ll2 ws2 H k2 ∧ k2.past = [] ∧ k2.fut = [] ∧ r = decide (ll = ll2 ∧ ws = ws2 ∧ st = k2.st)
section
variable {K : PySem.W.Frag} {C fe cf p wz bl pk pA fA : Addr} {las : List Addr} {ll : List (List Int)} {ws b : List Int} {T : List (Addr × Str)} {H H' : Hp} {st : Stand} {o l : Addr} {r : Bool} {x : V} {xs ys : List V}
theorem X2.same (h : X2 C fe cf p wz bl pk pA fA las ll ws b T H) (s : Same H H') : X2 C fe cf p wz bl pk pA fA las ll ws b T H' := ⟨h.F.same s, h.TB.ext s, h.R.same s, h.W.same s, h.Bb.same s, h.P.same s⟩
theorem X2.ext (h : X2 C fe cf p wz bl pk pA fA las ll ws b T H) (e : ExtN H H') (T' : Tabs T H') : X2 C fe cf p wz bl pk pA fA las ll ws b T H' := ⟨h.F.ext e, T', h.R.ext e, h.W.ext e, h.Bb.ext e, h.P.ext e⟩
theorem PkAt.put {k : Pk} {pA fA : Addr} (h : PkAt C H o k pA fA) (e1 : k.past = []) (e2 : k.fut = []) (hl : H l = some (.lst (x :: xs))) : PkAt C (upd H l (.lst ys)) o k pA fA := by
  have h0 := h
  obtain ⟨⟨dx, s, h1, h2⟩, ⟨as, h3, h4⟩, ⟨bs, h5, h6⟩, h7⟩ := h0
  rw [e1] at h4
  rw [e2] at h6
  have a0 : as = [] := List.length_eq_zero_iff.mp h4.1
  have b0 : bs = [] := List.length_eq_zero_iff.mp h6.1
  subst a0 b0
  refine h.kx (A := [l]) (Kx.put (by simp)) (KT.put hl) ?_ ?_ ?_
  · rw [List.mem_singleton]; exact ne_of h1 hl (fun z => by cases z)
  · rw [List.mem_singleton]; exact ne_of h3 hl (fun z => by cases z)
  · rw [List.mem_singleton]; exact ne_of h5 hl (fun z => by cases z)
theorem X2.put (h : X2 C fe cf p wz bl pk pA fA las ll ws b T H) (hl : H l = some (.lst (x :: xs))) (n1 : l ≠ fe) (n2 : l ≠ cf) : X2 C fe cf p wz bl pk pA fA las ll ws b T (upd H l (.lst ys)) :=
  ⟨h.F.put n1 n2, tabs_list h.TB hl, rowsAt_kt h.R (KT.put hl), ints_kt h.W (KT.put hl), ints_kt h.Bb (KT.put hl), h.P.put rfl rfl hl⟩
theorem IT.kt0 {v : Addr} (h : IT K H v ws) (hl : H l = some (.lst (x :: xs))) : IT K (upd H l (.lst ys)) v ws := by
  rcases h with (h | ⟨o, h⟩) | h
  · exact .inl (.inl (by rw [upd_ne (ne_of h hl (fun z => by cases z))]; exact h))
  · exact .inl (.inr ⟨o, by rw [upd_ne (ne_of h hl (fun z => by cases z))]; exact h⟩)
  · exact .inr h
theorem OkO.same (h : OkO K C H ll ws st o r) (s : Same H H') : OkO K C H' ll ws st o r := by
  obtain ⟨k2, pB, fB, ll2, ws2, h1, ⟨⟨as, hR⟩, hW⟩, h3, h4, h5⟩ := h
  exact ⟨k2, pB, fB, ll2, ws2, h1.same s, ⟨⟨as, hR.same s⟩, hW.same s⟩, h3, h4, h5⟩
theorem OkO.ext (h : OkO K C H ll ws st o r) (s : ExtN H H') : OkO K C H' ll ws st o r := by
  obtain ⟨k2, pB, fB, ll2, ws2, h1, ⟨⟨as, hR⟩, hW⟩, h3, h4, h5⟩ := h
  exact ⟨k2, pB, fB, ll2, ws2, h1.ext s, ⟨⟨as, hR.ext s⟩, hW.ext s⟩, h3, h4, h5⟩
theorem OkO.put (h : OkO K C H ll ws st o r) (hl : H l = some (.lst (x :: xs))) : OkO K C (upd H l (.lst ys)) ll ws st o r := by
  obtain ⟨k2, pB, fB, ll2, ws2, h1, ⟨⟨as, hR⟩, hW⟩, h3, h4, h5⟩ := h
  exact ⟨k2, pB, fB, ll2, ws2, h1.put h3 h4 hl, ⟨⟨as, rowsAt_kt hR (KT.put hl)⟩, hW.kt0 hl⟩, h3, h4, h5⟩
end
end HL

set_option pp.maxSteps 600
set_option pp.deepTerms false
namespace HL
open PySem PySem.Spec PyProof.Rows L2
open C8 (pss_cut)
open LamX (CodeO Tabs TabS TabB ExtN tLam LamS lamS_by lamCx lamEnv codeO_ne)
open BL (vec Lb Bv Ld muv St1 RowOk)
abbrev NL : List Str := ["_law_script", "_law_feed_here", "_law_turn", "_law_mlot", "_law_mbill", "_law_mwish", "_law_picker", "_law_state", "_law_due", "_law_best", "_law_others", "_law_wants", "_law_at", "_law_odd", "_law_words", "_law_good"]
theorem scLaw : FnScope NL ["_law_script"] (defScope sLaw) := ⟨rfl, rfl, rfl, by decide +kernel, rfl, by decide +kernel, by decide +kernel⟩
abbrev qLam : Str := ((Str.ofString "law" : Str) ++ (Str.ofString ".<locals>." : Str)) ++ (Str.ofString "<lambda>" : Str)
theorem limW_le {g : Nat} : limW g ≤ 13 := by
  unfold limW
  repeat' split
  all_goals decide
theorem StOk.first {ll : List (List Int)} {b : List Int} (h1 : b.length = width ll) (h2 : ∀ z ∈ b, 0 ≤ z ∧ z ≤ 100000000000000000000000000000) : StOk ll 20 (b, List.replicate ll.length 0, b) := by
  refine ⟨h1, fun z hz => ?_, List.length_replicate, fun z hz => ?_, h1, fun z hz => ?_⟩
  · have := h2 z hz; omega
  · rw [List.eq_of_mem_replicate hz]; omega
  · have := h2 z hz; omega
section
variable {P : Program} {w : World} {K : PySem.W.Frag} {mg : Str → Option Value} {base : Heap}
/-- all that the law takes from the module -/
structure Txt (P : Program) (w : World) (K : PySem.W.Frag) (mg : Str → Option Value) (base : Heap) (C C0 CB CW CE CM CN : Addr) : Prop where
  B : Bl mg
  feed : Cal P w K mg base CX0 1 "_law_feed" ["_law_script"] (spFeed K)
  same3 : Cal P w K mg base CX0 4 "_law_same" ["_law_found", "_law_due"] (spSame 3)
  small : Cal P w K mg base CX0 4 "_law_small_lot" ["_law_feed_here"] spSmallX
  sb : Cal P w K mg base CX0 2 "_law_small_bill" ["_law_feed_here", "_law_mlot"] spSmallBill
  wi : Cal P w K mg base CX0 3 "_law_wish" ["_law_feed_here", "_law_mlot"] spWish
  gt : Cal P w K mg base CX0 3 "_law_great" ["_law_feed_here"] spGreat
  pick : Cal P w K mg base CX0 2 "_law_pick" ["_law_feed_here", "_law_row"] spPick
  no : Cal P w K mg base CX0 1 "_law_noughts" ["_law_many"] spNg
  ds : Cal P w K mg base CX0 2 "_law_due_seen" ["_law_mlot", "_law_mwish", "_law_state"] (spDueS K)
  so : Cal P w K mg base CX0 6 "_law_seen_of" ["_law_picker"] (spSeen C)
  bl : CalBL P w K mg base 6 "best_load" (spBestLoad K C0 CB CW)
  M : PkM P w K mg base C C0 CB CW
  word : ∃ (g : Addr) (oc : Value) (od : Option Addr) (kV doc pm : Value) (an : Option Addr) (cdv ct : Value) (osl : Array (Option Value)), mg "_law_word" = some (.ref g) ∧ PySem.W.keepIn K (.ref g) = true ∧
    K.lookup g = some ⟨oc, od, .func (PySem.W.fnOf "_law_word" "_law_word" (defArgs sWord) (defBody sWord) (defScope sWord) .none kV doc pm an cdv ct), osl⟩ ∧ PySem.W.codeIn K cdv "_law_word" = true ∧
    L2.Binds K (PySem.W.fnOf "_law_word" "_law_word" (defArgs sWord) (defBody sWord) (defScope sWord) .none kV doc pm an cdv ct) ["_law_ask"] []
  cls : ClsW mg CE CM CN
  f1 : FamW K CE CM C0 false
  f2 : FamW K CE CM CB false
  f3 : FamW K CE CM CW false
def spLaw (K : PySem.W.Frag) (Pt : Addr) : Sp := fun vs H Q _ => ∃ (a : Addr) (ns : List Int), vs = [.ref a] ∧ SqL K H a (ns.map V.int) ∧ ns.length ≤ 63 ∧ Tabs [(Pt, qLam)] H ∧ ∀ H', Q (.bl true) H'
theorem ok_law {f C C0 CB CW CE CM CN c Pt : Addr} {oc : Value} {od : Option Addr} {kV doc pm : Value} {an : Option Addr} {ct : Value} {osl : Array (Option Value)}
    (lk : K.lookup f = some ⟨oc, od, .func (PySem.W.fnOf "law" "law" (defArgs sLaw) (defBody sLaw) (defScope sLaw) .none kV doc pm an (.ref c) ct), osl⟩) (hcd : PySem.W.codeIn K (.ref c) "law" = true) (T : Txt P w K mg base C C0 CB CW CE CM CN) (TB : TabB base mg c Pt) :
    FnOk P w K mg base CX0 12 f (PySem.W.fnOf "law" "law" (defArgs sLaw) (defBody sLaw) (defScope sLaw) .none kV doc pm an (.ref c) ct) ["_law_script"] (spLaw K Pt) := by
  have B := T.B
  have TP := T.M.TP
  obtain ⟨fF, fdF, GF, gF, kF, bF⟩ := T.feed.ex
  obtain ⟨fS, fdS, GS, gS, kS, bS⟩ := T.same3.ex
  obtain ⟨fSm, fdSm, GSm, gSm, kSm, bSm⟩ := T.small.ex
  obtain ⟨fSB, fdSB, GSB, gSB, kSB, bSB⟩ := T.sb.ex
  obtain ⟨fWi, fdWi, GWi, gWi, kWi, bWi⟩ := T.wi.ex
  obtain ⟨fGt, fdGt, GGt, gGt, kGt, bGt⟩ := T.gt.ex
  obtain ⟨fP, fdP, GP, gP, kP, bP⟩ := T.pick.ex
  obtain ⟨fNo, fdNo, GNo, gNo, kNo, bNo⟩ := T.no.ex
  obtain ⟨fDs, fdDs, GDs, gDs, kDs, bDs⟩ := T.ds.ex
  obtain ⟨fSo, fdSo, GSo, gSo, kSo, bSo⟩ := T.so.ex
  obtain ⟨fBL, fdBL, TBL, GBL, gBL, kBL, bBL, hTBL, kb2⟩ := T.bl
  obtain ⟨fLf, fdLf, GLf, mLf, bLf⟩ := T.M.lf
  obtain ⟨fIB, fdIB, GIB, mIB, bIB⟩ := T.M.ib
  obtain ⟨fSr, fdSr, GSr, mSr, bSr⟩ := T.M.sr
  obtain ⟨fEq, fdEq, GEq, mEq, bEq⟩ := T.M.eq
  have EQ := T.M.EQ
  obtain ⟨fPI, fdPI, T0, GPI, MPI, kbPI, kbPI0, bPI, hT0⟩ := T.M.pi
  have vdPI : Vals [V.ref T0] [Value.ref T0] := .cons rfl .nil
  obtain ⟨gT, toc, tod, tkV, tdoc, tpm, tan, tcdv, tct, tosl, gW, kW, lkW, cdW, bW⟩ := T.word
  refine fn_of lk hcd scLaw (fun vs H Q E h => ?_) fun A outer s H vs Q E hr h => ?_
  · obtain ⟨a, ns, rfl, _⟩ := h
    rfl
  · obtain ⟨a, ns0, rfl, hS, hlen, hT, q⟩ := h
    have tl : ∀ {X : Cx} (eK : X.K = K) (em : X.mg = mg) {q : Str} {cdg : Value} {g : Addr}, AsksOf X NW "_law_word" (defScope sWord) g cdg (defBody sWord) "_law_ask" q (TTw K CE CM) := fun {X} eK em {q cdg g} => by
      subst eK em
      exact word_gives T.cls
    have build : ∃ t, PSs (cxOf CX0 P w K mg base NL "law" (defScope sLaw) f (.ref c) A outer s H E).nox (defBody sLaw) t ∧ t { nx := fun _ H' => Q .non H', rt := Q } (L2.start NL [.ref a]) H := by
      refine ⟨_, (pss_cons (ps_set (i := 1) scLaw.nd rfl (.inr rfl) (pe_call GF (hr.mono (by decide)) (by rfl) gF kF bF .nil pass0 (pa_cons (pv 0) pa_nil)))
      (pss_cons (ps_for PassesOwn.never rfl (pi_range1 (by rfl) B.range (pa_cons pe_int pa_nil)) (pg_name (i := 2) scLaw.nd rfl (.inl rfl))
      (pss_cut (ps_set (i := 3) scLaw.nd rfl (.inr rfl) (pe_call GSm (hr.mono (by decide)) (by rfl) gSm kSm bSm .nil pass0 (pa_cons (pv 1) pa_nil)))
      (pss_cut (ps_set (i := 4) scLaw.nd rfl (.inr rfl) (pe_call GP (hr.mono (by decide)) (by rfl) gP kP bP .nil pass0 (pa_cons (pv 1) (pa_cons (pe_lst (pa_cons (pe_call GSB (hr.mono (by decide)) (by rfl) gSB kSB bSB .nil pass0 (pa_cons (pv 1) (pa_cons (pv 3) pa_nil))) (pa_cons (pe_callTy call_tuple_of (by rfl) B.tuple (by decide +kernel) (pa_cons (pe_lc (own := [("_law_good", 15)]) (g := gName 15) (tt := tYes) rfl scLaw.nd (pi_tup (pe_ix ix_tup (pv 3) pe_int (fun _ _ => rfl)))
        (blkOk_by (own := [("_law_good", 15)]) (N := NL) (sc := defScope sLaw) (by decide +kernel)) (fun _ _ _ _ _ => pg_name (i := 15) scLaw.nd rfl (Or.inl rfl)) (fun _ _ _ _ _ => pts_nil)
        (fun _ _ _ _ _ => (pe_call GGt (hr.mono (by decide)) (by rfl) gGt kGt bGt .nil pass0 (pa_cons (pv 1) pa_nil)))) pa_nil)) pa_nil))) pa_nil))))
      (pss_cut (ps_set (i := 5) scLaw.nd rfl (.inl rfl) (pe_call GWi (hr.mono (by decide)) (by rfl) gWi kWi bWi .nil pass0 (pa_cons (pv 1) (pa_cons (pv 3) pa_nil))))
      (pss_cut (ps_set (i := 6) scLaw.nd rfl (.inl rfl) (pe_makeN MPI GPI (hr.mono (by decide)) (by rfl) TP.mgC kbPI passL (pa_cons (pv 3) (pa_cons (pv 4) pa_nil)) (pk_cons (pv 5) pk_nil)))
      (pss_cut (ps_set (i := 7) scLaw.nd rfl (.inl rfl) (pe_tup (pa_cons (pv 4) (pa_cons (pe_call GNo (hr.mono (by decide)) (by rfl) gNo kNo bNo .nil pass0 (pa_cons (pe_callB call_len_seq (by rfl) B.len PySem.boot_len (pa_cons (pv 3) pa_nil)) pa_nil)) (pa_cons (pv 4) pa_nil)))))
      (pss_cut (ps_set (i := 8) scLaw.nd rfl (.inl rfl) (pe_call GDs (hr.mono (by decide)) (by rfl) gDs kDs bDs .nil pass0 (pa_cons (pv 3) (pa_cons (pv 5) (pa_cons (pv 7) pa_nil)))))
      (pss_cut (ps_if (PW.pt (pw_or (pt_not (pt_val (pe_call GS (hr.mono (by decide)) (by rfl) gS kS bS .nil pass0 (pa_cons (pe_call GSo (hr.mono (by decide)) (by rfl) gSo kSo bSo .nil pass0 (pa_cons (pv 6) pa_nil)) (pa_cons (pv 8) pa_nil))))) (pw_or1 (pt_not (pt_val (pe_call GS (hr.mono (by decide)) (by rfl) gS kS bS .nil pass0 (pa_cons (pe_meth0 (pv 6) TP.cl mLf GLf (hr.mono (by decide)) bLf .nil pass0) (pa_cons (pe_tup (pa_cons pe_int (pa_cons pe_int pa_nil))) pa_nil)))))))) pss_never pss_nil)
      (pss_cut (ps_set (i := 9) scLaw.nd rfl (.inl rfl) (pe_callN GBL (hr.mono (by decide)) (by rfl) gBL kBL kb2 passL (pa_cons (pv 3) (pa_cons (pv 4) pa_nil)) (pk_cons (pv 5) pk_nil)))
      (pss_cut (ps_if (pt_not (pt_val (pe_call GS (hr.mono (by decide)) (by rfl) gS kS bS .nil pass0 (pa_cons (pe_meth0 (pv 6) TP.cl mIB GIB (hr.mono (by decide)) bIB .nil passL) (pa_cons (pe_cmpR (op_eqD hr.units) (pv 9) (pe_tup (pa_cons (pe_ix ix_tup (pv 7) pe_int (fun _ _ => rfl)) (pa_cons (pv 4) pa_nil))) (nomark _)) pa_nil))))) pss_never pss_nil)
      (pss_cut (ps_set (i := 10) scLaw.nd rfl (.inl rfl) (pe_lst (pa_cons (pe_makeN MPI GPI (hr.mono (by decide)) (by rfl) TP.mgC kbPI passL (pa_cons (pv 3) (pa_cons (pv 4) pa_nil)) (pk_cons (pe_op op_repA (pe_tup (pa_cons pe_int pa_nil)) (pe_callB call_len_seq (by rfl) B.len PySem.boot_len (pa_cons (pv 3) pa_nil))) pk_nil)) (pa_cons (pe_make MPI GPI (hr.mono (by decide)) (by rfl) TP.mgC bPI vdPI passL (pa_cons (pv 3) (pa_cons (pv 4) pa_nil))) pa_nil))))
      (pss_cut (ps_expr (pe_bm PySem.F.plainAttrs_list PySem.F.slot_list_append PySem.F.type_list_append mt_append (pv 10) (pa_cons (pe_makeN MPI GPI (hr.mono (by decide)) (by rfl) TP.mgC kbPI passL (pa_cons (pv 3) (pa_cons (pe_op op_catA (pe_tup (pa_cons (pe_op op_add (pe_ix ix_tup (pv 4) pe_int (fun _ _ => rfl)) pe_int) pa_nil)) (pe_slice sl_tupA (pv 4) (po_some pe_int) po_none)) pa_nil)) (pk_cons (pv 5) pk_nil)) pa_nil)))
      (pss_cut (ps_expr (pe_bm PySem.F.plainAttrs_list PySem.F.slot_list_append PySem.F.type_list_append mt_append (pv 10) (pa_cons (pe_make MPI GPI (hr.mono (by decide)) (by rfl) TP.mgC bPI vdPI passL (pa_cons (pe_op op_catA (pv 3) (pe_tup (pa_cons (pe_ix ix_tup (pv 3) pe_int (fun _ _ => rfl)) pa_nil))) (pa_cons (pv 4) pa_nil))) pa_nil)))
      (pss_cut (ps_set (i := 11) scLaw.nd rfl (.inl rfl) (pe_lst (pa_cons (pe_cmpR (op_eqD hr.units) (pv 5) (pe_op op_repA (pe_tup (pa_cons pe_int pa_nil)) (pe_callB call_len_seq (by rfl) B.len PySem.boot_len (pa_cons (pv 3) pa_nil))) (nomark _)) (pa_cons (pe_cmpR (op_eqD hr.units) (pv 5) (pe_tup pa_nil) (nomark _)) (pa_cons pe_bl (pa_cons pe_bl pa_nil))))))
      (pss_cut (ps_for PassesOwn.never rfl (pi_range1 (by rfl) B.range (pa_cons pe_int pa_nil)) (pg_name (i := 12) scLaw.nd rfl (.inl rfl))
      (pss_one (ps_if (PW.pt (pw_or (pt_cmpR op_ne (pe_cmpR (op_ownEq (E := fun _ _ _ => False) GEq mEq.at_ mEq.fn bEq (hr.mono (by decide)) pass0) (pv 6) (pe_ix ix_list (pv 10) (pv 12) (fun _ _ => rfl)) (nomark _)) (pe_ix ix_list (pv 11) (pv 12) (fun _ _ => rfl)) (nomark _)) (pw_or1 (pt_cmpR op_eq (pe_cmpR (op_ownNe (E := fun _ _ _ => False) GEq EQ.hm EQ.ne mEq.at_ mEq.fn bEq (hr.mono (by decide)) pass0) (pv 6) (pe_ix ix_list (pv 10) (pv 12) (fun _ _ => rfl)) (nomark _)) (pe_ix ix_list (pv 11) (pv 12) (fun _ _ => rfl)) (nomark _))))) pss_never pss_nil)))
      (pss_cut (ps_if (PW.pt (pw_or (pt_cmpR (op_ownNe (E := fun _ _ _ => False) GEq EQ.hm EQ.ne mEq.at_ mEq.fn bEq (hr.mono (by decide)) pass0) (pv 6) (pe_makeK0 MPI GPI (hr.mono (by decide)) (by rfl) TP.mgC kbPI0 passL (pk_cons (pv 5) (pk_cons (pv 4) (pk_cons (pv 3) pk_nil)))) (nomark _)) (pw_or (pt_cmpR (op_ownEq (E := fun _ _ _ => False) GEq mEq.at_ mEq.fn bEq (hr.mono (by decide)) pass0) (pv 6) (pv 4) (nomark _)) (pw_or1 (pt_cmpR (op_ownEq (E := fun _ _ _ => False) GEq mEq.at_ mEq.fn bEq (hr.mono (by decide)) pass0) (pv 6) (pe_callTy (call_strO (E := fun _ _ _ => False) GSr mSr.at_ mSr.fn bSr (hr.mono (by decide)) pass0) (by rfl) B.str (by decide +kernel) (pa_cons (pv 6) pa_nil)) (nomark _)))))) pss_never pss_nil)
      (pss_cut (ps_set (i := 13) scLaw.nd rfl (.inr rfl) (pe_op op_repA (pe_tup (pa_cons pe_int pa_nil)) (pe_callB call_len_seq (by rfl) B.len PySem.boot_len (pa_cons (pv 3) pa_nil))))
      (pss_cut (ps_set (i := 14) scLaw.nd rfl (.inl rfl) (pe_lst (pa_cons (pe_ix ix_tup (pe_askcall (k := 9) (T := [(Pt, qLam)]) (TT := TTw K CE CM) (t := fun E => tMakeN C 2 (["wish"] : List Str).length (spPInit K C C0 CB CW) (fun vs zs => vs ++ zs) E (tCons (tOp (rCatA K) (tVar 3) (tTup (tCons (tTup tNil) tNil))) (tCons (tTup tNil) tNil)) (tCons (tVar 13) tNil)) (by rfl) gW kW lkW cdW bW scWord rfl (.inl rfl) (tl rfl rfl) TB rfl List.mem_cons_self (fun p hp _ => by rw [List.mem_singleton.mp hp]; rfl) hr (lamS_by (sc := defScope sLaw) (by decide +kernel)) rfl (fun _ _ _ _ _ => rfl)
              (fun A outer s H E f c' hr2 => pe_makeN MPI GPI (hr2.mono (by decide)) (by rfl) TP.mgC kbPI (passes_call (takes_of rfl rfl rfl rfl) (fun _ _ _ _ h => h)) (pa_cons (pe_op op_catA (pv 3) (pe_tup (pa_cons (pe_tup pa_nil) pa_nil))) (pa_cons (pe_tup pa_nil) pa_nil)) (pk_cons (pv 13) pk_nil))) pe_int (fun _ _ => rfl)) pa_nil)))
      (pss_cut (ps_expr (pe_bm PySem.F.plainAttrs_list PySem.F.slot_list_append PySem.F.type_list_append mt_append (pv 14) (pa_cons (pe_ix ix_tup (pe_askcall (k := 9) (T := [(Pt, qLam)]) (TT := TTw K CE CM) (t := fun E => tMakeN C 2 (["wish"] : List Str).length (spPInit K C C0 CB CW) (fun vs zs => vs ++ zs) E (tCons (tVar 3) (tCons (tOp (rCatA K) (tVar 4) (tTup (tCons (tC (.int 0)) tNil))) tNil)) (tCons (tVar 13) tNil)) (by rfl) gW kW lkW cdW bW scWord rfl (.inl rfl) (tl rfl rfl) TB rfl List.mem_cons_self (fun p hp _ => by rw [List.mem_singleton.mp hp]; rfl) hr (lamS_by (sc := defScope sLaw) (by decide +kernel)) rfl (fun _ _ _ _ _ => rfl)
              (fun A outer s H E f c' hr2 => pe_makeN MPI GPI (hr2.mono (by decide)) (by rfl) TP.mgC kbPI (passes_call (takes_of rfl rfl rfl rfl) (fun _ _ _ _ h => h)) (pa_cons (pv 3) (pa_cons (pe_op op_catA (pv 4) (pe_tup (pa_cons pe_int pa_nil))) pa_nil)) (pk_cons (pv 13) pk_nil))) pe_int (fun _ _ => rfl)) pa_nil)))
      (pss_cut (ps_expr (pe_bm PySem.F.plainAttrs_list PySem.F.slot_list_append PySem.F.type_list_append mt_append (pv 14) (pa_cons (pe_ix ix_tup (pe_askcall (k := 9) (T := [(Pt, qLam)]) (TT := TTw K CE CM) (t := fun E => tMakeN C 2 (["wish"] : List Str).length (spPInit K C C0 CB CW) (fun vs zs => vs ++ zs) E (tCons (tVar 3) (tCons (tVar 4) tNil)) (tCons (tVar 13) tNil)) (by rfl) gW kW lkW cdW bW scWord rfl (.inl rfl) (tl rfl rfl) TB rfl List.mem_cons_self (fun p hp _ => by rw [List.mem_singleton.mp hp]; rfl) hr (lamS_by (sc := defScope sLaw) (by decide +kernel)) rfl (fun _ _ _ _ _ => rfl)
              (fun A outer s H E f c' hr2 => pe_makeN MPI GPI (hr2.mono (by decide)) (by rfl) TP.mgC kbPI (passes_call (takes_of rfl rfl rfl rfl) (fun _ _ _ _ h => h)) (pa_cons (pv 3) (pa_cons (pv 4) pa_nil)) (pk_cons (pv 13) pk_nil))) pe_int (fun _ _ => rfl)) pa_nil)))
      (pss_one (ps_if (pt_cmpR (op_neD hr.units) (pv 14) (pe_lst (pa_cons pe_str (pa_cons pe_str (pa_cons pe_str pa_nil)))) (nomark _)) pss_never pss_nil))))))))))))))))))))))
      (pss_one (ps_ret pe_bl)))), ?_⟩
      refine ⟨.ref a, rfl, a, ns0, rfl, hS, hlen, fun H1 fe cf s1 nf F1 => ?_⟩
      have T1 := hT.ext s1
      clear hS hT s1
      refine ⟨3, rfl, by decide, by decide, ?_⟩
      refine for_range (lo := 0) (n := 3) (fun i σ' H' => (∃ y2 y3 y4 y5 y6 y7 y8 y9 y10 y11 y12 y13 y14 y15, σ' = [some (.ref a), some (.ref fe), y2, y3, y4, y5, y6, y7, y8, y9, y10, y11, y12, y13, y14, y15]) ∧ FeedAt cf H' fe ∧ Tabs [(Pt, qLam)] H') ⟨⟨_, _, _, _, _, _, _, _, _, _, _, _, _, _, rfl⟩, F1, T1⟩ (fun i σ H2 hi hI => ?_) (fun σ H2 _ => q H2)
      clear F1 T1
      obtain ⟨⟨y2, y3, y4, y5, y6, y7, y8, y9, y10, y11, y12, y13, y14, y15, rfl⟩, F2, T2⟩ := hI
      -- the lot
      refine ⟨fun σ' H' => ∃ (p : Addr) (las : List Addr) (ll : List (List Int)), (∃ y2 y4 y5 y6 y7 y8 y9 y10 y11 y12 y13 y14 y15, σ' = [some (.ref a), some (.ref fe), y2, some (.ref p), y4, y5, y6, y7, y8, y9, y10, y11, y12, y13, y14, y15]) ∧ FeedAt cf H' fe ∧ Tabs [(Pt, qLam)] H' ∧ RowsAt H' p las ll ∧ SmallL ll, ?_, ?_⟩
      · exact ⟨.ref fe, rfl, fe, cf, rfl, F2, fun H3 p ll k3 F3 ⟨as, hp, hR⟩ sl => ⟨p, as, ll, ⟨_, _, _, _, _, _, _, _, _, _, _, _, _, rfl⟩, F3, tabs_kp T2 F2 k3, ⟨hp, hR⟩, sl⟩⟩
      clear F2 T2
      rintro σ' H3 ⟨p, las, ll, ⟨y2, y4, y5, y6, y7, y8, y9, y10, y11, y12, y13, y14, y15, rfl⟩, F3, T3, R3, sml⟩
      obtain ⟨ef, SW⟩ := smallW_of sml
      have hok := flaw_ok ef
      have hlen0 := R3.2.len
      have l4 := (small_len sml).2
      have l1 := (small_len sml).1
      have hrw := flaw_rows ef
      have hF : ∀ {b : List Int}, b.length = width ll → ∃ D, Few ll b D := fun {b} e => few_sm (by rw [e]; exact SW)
      clear sml
      -- the bill
      refine ⟨fun σ' H' => ∃ (bl : Addr) (b : List Int), (∃ y2 y5 y6 y7 y8 y9 y10 y11 y12 y13 y14 y15, σ' = [some (.ref a), some (.ref fe), y2, some (.ref p), some (.ref bl), y5, y6, y7, y8, y9, y10, y11, y12, y13, y14, y15]) ∧ FeedAt cf H' fe ∧ Tabs [(Pt, qLam)] H' ∧ RowsAt H' p las ll ∧ IntsAt H' bl b ∧ b.length = width ll ∧ ∀ z ∈ b, 0 ≤ z ∧ z < 100000000000000000000000000000, ?_, ?_⟩
      · refine ⟨.ref fe, rfl, .ref fe, rfl, .ref p, rfl, fe, cf, p, las, ll, rfl, F3, R3, by omega, by omega, by omega, fun H4 t1 b1 k4 F4 hb1 hbl1 hbb1 => ?_⟩
        have R4 := R3.kp F3 k4
        have T4 := tabs_kp T3 F3 k4
        obtain ⟨r0, hr0⟩ : ∃ r0, las[0]? = some r0 := ⟨_, List.getElem?_eq_getElem (by omega)⟩
        obtain ⟨r, hr1, hr2⟩ := R4.2.at hr0
        have hr2 : IntsAt H4 r0 r := hr2
        have rw0 : r.length = width ll := (hrw r (List.mem_of_getElem? hr1)).1
        refine ⟨.ref p, rfl, p, _, 0, .ref r0, rfl, rfl, SqT.of R4.1, atI_nat (j := 0) (by rw [List.getElem?_map, hr0]; rfl), r0, rfl, ⟨_, SqT.of hr2⟩, fun Dc nD => ?_⟩
        have nf := F4.ne nD
        have nc := F4.neC nD
        refine lc_tup (K := K) (a := r0) (xs := r.map V.int) (PvD fe cf H4 Dc fun n => 0 ≤ n ∧ n < 100000000000000000000000000000) ⟨Kp.new nD, F4.new nD, [], upd_same, rfl, fun n hn => by cases hn⟩ (fun i H' _ hP => SqT.of (hr2.kp F4 hP.1)) (fun i x H' hx hP => ?_) (fun H' hP => ?_)
        · have hi : i < r.length := by
            have := (List.getElem?_eq_some_iff.mp hx).1
            rw [List.length_map] at this
            exact this
          refine ⟨rfl, yes (iteT ?_)⟩
          refine ⟨.ref fe, rfl, fe, cf, rfl, hP.2.1, fun d H8 d0 d1 k8 F8 => ?_⟩
          exact hP.more nD nf nc (by omega) k8 F8 ⟨d0, d1⟩
        · obtain ⟨kp, F', ns, hD, hl, hb⟩ := hP
          rw [List.length_map, rw0] at hl
          refine ⟨Dc, _, rfl, .inl ⟨SqL.of hD, fun t nt => ?_⟩⟩
          have st := same_new (o := .tup (ns.map V.int)) nt
          have F5 := F'.same st
          refine ⟨(by show 2 ≤ sizeLine; decide), fun l nl => ?_⟩
          have sl := same_new (o := .lst [.ref t1, .ref t]) nl
          have F6 := F5.new (o := .lst [.ref t1, .ref t]) nl
          have hbA := ((hb1.kp F4 kp).same (st.trans sl))
          have hbB : IntsAt (upd (upd H' t (.tup (ns.map V.int))) l (.lst [.ref t1, .ref t])) t ns := sl _ _ upd_same
          have R6 := ((R4.kp F4 kp).same st).same sl
          have T6 := ((tabs_kp T4 F4 kp).ext st).ext sl
          refine ⟨fe, cf, l, _, rfl, upd_same, F5.ne nl, (by show 1 ≤ 2; decide), (by show 2 ≤ 1000000; decide), F6, fun v H10 hv k10 F10 => ?_⟩
          simp only [List.mem_cons, List.mem_nil_iff, or_false] at hv
          rcases hv with rfl | rfl
          · refine ⟨t1, b1, ⟨_, _, _, _, _, _, _, _, _, _, _, _, rfl⟩, F10, tabs_kp T6 F6 k10, R6.kp F6 k10, hbA.kp F6 k10, hbl1, fun z hz => ?_⟩
            have h1 := hbb1 z hz
            have h2 := limW_le (g := width ll)
            omega
          · exact ⟨t, ns, ⟨_, _, _, _, _, _, _, _, _, _, _, _, rfl⟩, F10, tabs_kp T6 F6 k10, R6.kp F6 k10, hbB.kp F6 k10, hl, hb⟩
      clear F3 T3 R3
      rintro σ' H4 ⟨bl, b, ⟨y2, y5, y6, y7, y8, y9, y10, y11, y12, y13, y14, y15, rfl⟩, F4, T4, R4, B4, hbl, hbb0⟩
      have so := StOk.first (ll := ll) hbl (fun z hz => by have := hbb0 z hz; omega)
      have hbb : ∀ z ∈ b, 0 ≤ z ∧ z < G30 := so.bb (by omega)
      -- the wish
      refine ⟨fun σ' H' => ∃ (wz : Addr) (ws : List Int), (∃ y2 y6 y7 y8 y9 y10 y11 y12 y13 y14 y15, σ' = [some (.ref a), some (.ref fe), y2, some (.ref p), some (.ref bl), some (.ref wz), y6, y7, y8, y9, y10, y11, y12, y13, y14, y15]) ∧ FeedAt cf H' fe ∧ Tabs [(Pt, qLam)] H' ∧ RowsAt H' p las ll ∧ IntsAt H' bl b ∧ IntsAt H' wz ws ∧ ws.length ≤ 100 ∧ okWish ll.length ws = true, ?_, ?_⟩
      · exact ⟨.ref fe, rfl, .ref p, rfl, fe, cf, p, las, ll, rfl, F4, R4, by omega, by omega, fun H5 wz ws k5 F5 hW hwz eo => ⟨wz, ws, ⟨_, _, _, _, _, _, _, _, _, _, _, rfl⟩, F5, tabs_kp T4 F4 k5, R4.kp F4 k5, B4.kp F4 k5, hW, hwz, eo⟩⟩
      clear F4 R4 T4 B4
      rintro σ' H5 ⟨wz, ws, ⟨y2, y6, y7, y8, y9, y10, y11, y12, y13, y14, y15, rfl⟩, F5, T5, R5, B5, W5, hwz, eo⟩
      -- the picker
      refine ⟨fun σ' H' => ∃ (pk pA fA : Addr), (∃ y2 y7 y8 y9 y10 y11 y12 y13 y14 y15, σ' = [some (.ref a), some (.ref fe), y2, some (.ref p), some (.ref bl), some (.ref wz), some (.ref pk), y7, y8, y9, y10, y11, y12, y13, y14, y15]) ∧ X2 C fe cf p wz bl pk pA fA las ll ws b [(Pt, qLam)] H', ?_, ?_⟩
      · refine ⟨.ref p, rfl, .ref bl, rfl, .ref wz, rfl, rfl, rfl, fun x dy nx ny nyx => mk_read R5 ef B5 hbl hbb W5.it eo hwz nx ny nyx fun H6 pA fA s6 _ _ P6 => ?_⟩
        exact ⟨x, pA, fA, ⟨_, _, _, _, _, _, _, _, _, _, rfl⟩, F5.same s6, T5.ext s6, R5.same s6, W5.same s6, B5.same s6, P6⟩
      clear F5 T5 R5 B5 W5
      rintro σ' H6 ⟨pk, pA, fA, ⟨y2, y7, y8, y9, y10, y11, y12, y13, y14, y15, rfl⟩, X6⟩
      -- its state
      refine ⟨fun σ' H' => ∃ (sz : Addr), (∃ y2 y8 y9 y10 y11 y12 y13 y14 y15, σ' = [some (.ref a), some (.ref fe), y2, some (.ref p), some (.ref bl), some (.ref wz), some (.ref pk), some (.ref sz), y8, y9, y10, y11, y12, y13, y14, y15]) ∧ X2 C fe cf p wz bl pk pA fA las ll ws b [(Pt, qLam)] H' ∧ StAt H' sz (b, List.replicate ll.length 0, b), ?_, ?_⟩
      · refine ⟨.ref bl, rfl, .ref p, rfl, p, _, rfl, .inr (SqT.of X6.R.1), (las.map V.ref).length, rfl, by rw [List.length_map]; omega, by rw [List.length_map]; omega, fun H7 z s7 hz => ?_⟩
        rw [List.length_map, hlen0] at hz
        refine ⟨.ref bl, rfl, (by show 3 ≤ sizeLine; decide), fun t nt => ?_⟩
        have st := same_new (o := .tup [.ref bl, .ref z, .ref bl]) nt
        exact ⟨t, ⟨_, _, _, _, _, _, _, _, _, rfl⟩, X6.same (s7.trans st), bl, z, bl, upd_same, X6.Bb.same (s7.trans st), hz.same st, X6.Bb.same (s7.trans st)⟩
      clear X6
      rintro σ' H7 ⟨sz, ⟨y2, y8, y9, y10, y11, y12, y13, y14, y15, rfl⟩, X7, S7⟩
      -- what is due
      refine ⟨fun σ' H' => ∃ (du : Addr), (∃ y2 y9 y10 y11 y12 y13 y14 y15, σ' = [some (.ref a), some (.ref fe), y2, some (.ref p), some (.ref bl), some (.ref wz), some (.ref pk), some (.ref sz), some (.ref du), y9, y10, y11, y12, y13, y14, y15]) ∧ X2 C fe cf p wz bl pk pA fA las ll ws b [(Pt, qLam)] H' ∧ StAt H' sz (b, List.replicate ll.length 0, b) ∧ SeenAt p wz ll H' du (b, List.replicate ll.length 0, b), ?_, ?_⟩
      · refine ⟨.ref p, rfl, .ref wz, rfl, .ref sz, rfl, p, wz, sz, _, las, ll, 20, rfl, X7.R, ef, S7, so, by omega, fun H8 du s8 sa => ?_⟩
        exact ⟨du, ⟨_, _, _, _, _, _, _, _, rfl⟩, X7.same s8, S7.kt s8.kt, sa⟩
      clear X7 S7
      rintro σ' H8 ⟨du, ⟨y2, y9, y10, y11, y12, y13, y14, y15, rfl⟩, X8, S8, D8⟩
      -- seen so
      refine ⟨fun σ' H' => (∃ y2 y8 y9 y10 y11 y12 y13 y14 y15, σ' = [some (.ref a), some (.ref fe), y2, some (.ref p), some (.ref bl), some (.ref wz), some (.ref pk), some (.ref sz), y8, y9, y10, y11, y12, y13, y14, y15]) ∧ X2 C fe cf p wz bl pk pA fA las ll ws b [(Pt, qLam)] H' ∧ StAt H' sz (b, List.replicate ll.length 0, b), ?_, ?_⟩
      · refine ⟨.ref pk, rfl, pk, _, pA, fA, las, ll, 20, rfl, X8.P, X8.R, ef, so, by omega, fun H9 a0 s9 na sa => ?_⟩
        have X9 := X8.same s9
        have D9 := D8.kt s9.kt (by obtain ⟨b', c', l', g1, _⟩ := D8; rw [g1]; exact s9 _ _ g1)
        have c1 := so.c1
        refine ⟨.ref du, rfl, .ref a0, .ref du, rfl, seen_eqd X9.R X9.W (by omega) (by omega) (fun r hr => by have := (hrw r hr).1; omega) (by show b.length ≤ 1000; omega) (by show (List.replicate ll.length (0 : Int)).length ≤ 1000; rw [List.length_replicate]; omega) (by show b.length ≤ 1000; omega) sa D9, fun H10 s10 => ⟨_, rfl, iteF ?_⟩⟩
        have X10 := X9.same s10
        have S10 := S8.kt (s9.kt.trans s10.kt)
        obtain ⟨dx, s', h1, _⟩ := X10.P.ob
        refine ⟨.ref pk, rfl, pk, dx, _, rfl, h1, pk_none (by decide +kernel), nilA ⟨pk, _, pA, fA, rfl, X10.P, fun H11 t s11 ht => ⟨sz_2 _ _, fun u nu => ?_⟩⟩⟩
        have su := same_new (o := .tup [.int 0, .int 0]) nu
        have hu : IntsAt (upd H11 u (.tup [.int 0, .int 0])) u [((0 : Nat) : Int), ((0 : Nat) : Int)] := upd_same
        refine ⟨.ref t, .ref u, rfl, eqd_ints (ht.same su) hu (by show 2 ≤ 1000; decide), fun H12 s12 => ⟨_, rfl, iteF ?_⟩⟩
        have s1 := s11.trans (su.trans s12)
        exact ⟨⟨_, _, _, _, _, _, _, _, _, rfl⟩, X10.same s1, S10.kt s1.kt⟩
      clear X8 S8 D8 du
      rintro σ' H9 ⟨⟨y2, y8, y9, y10, y11, y12, y13, y14, y15, rfl⟩, X9, S9⟩
      -- the best load
      refine ⟨fun σ' H' => ∃ (bz : Addr) (x : List Int), (∃ y2 y8 y10 y11 y12 y13 y14 y15, σ' = [some (.ref a), some (.ref fe), y2, some (.ref p), some (.ref bl), some (.ref wz), some (.ref pk), some (.ref sz), y8, some (.ref bz), y10, y11, y12, y13, y14, y15]) ∧ X2 C fe cf p wz bl pk pA fA las ll ws b [(Pt, qLam)] H' ∧ StAt H' sz (b, List.replicate ll.length 0, b) ∧ LdAt H' bz (x.take ll.length, x.drop ll.length) ∧ IsBest ll b (numI ll.length ws) x, ?_, ?_⟩
      · refine ⟨.ref p, rfl, .ref bl, rfl, .ref wz, rfl, rfl, rfl, ?_⟩
        refine bl_ask X9.R ef X9.Bb hbl hbb X9.W.it eo hwz (hF hbl) fun H10 z x s10 hx hz => ?_
        exact ⟨z, x, ⟨_, _, _, _, _, _, _, _, rfl⟩, X9.same s10, S9.kt s10.kt, hz, hx⟩
      clear X9 S9
      rintro σ' H10 ⟨bz, x, ⟨y2, y8, y10, y11, y12, y13, y14, y15, rfl⟩, X10, S10, L10, hx⟩
      -- told so
      refine ⟨fun σ' H' => (∃ y2 y7 y8 y9 y10 y11 y12 y13 y14 y15, σ' = [some (.ref a), some (.ref fe), y2, some (.ref p), some (.ref bl), some (.ref wz), some (.ref pk), y7, y8, y9, y10, y11, y12, y13, y14, y15]) ∧ X2 C fe cf p wz bl pk pA fA las ll ws b [(Pt, qLam)] H', ?_, ?_⟩
      · obtain ⟨dx, s', h1, _⟩ := X10.P.ob
        refine ⟨.ref pk, rfl, pk, dx, _, rfl, h1, pk_none (by decide +kernel), nilA ⟨pk, _, pA, fA, ll, ws, rfl, X10.P, ⟨⟨las, X10.R⟩, X10.W.it⟩, ef, hwz, eo, hbl, hbb, hF hbl, fun H11 x' s11 hx' => ?_⟩⟩
        have e1 := best_one hx hx'
        subst e1
        have X11 := X10.same s11
        obtain ⟨sb, sc, sl, g1, g2, g3, g4⟩ := S10.kt s11.kt
        refine ⟨.ref bz, rfl, .ref sz, rfl, sz, _, 1, .ref sc, rfl, rfl, SqT.of g1, atI_nat (j := 1) rfl, .ref bl, rfl, sz_2 _ _, fun t nt => ?_⟩
        have st := same_new (o := .tup [.ref sc, .ref bl]) nt
        refine eq_lds (q := (x.take ll.length, x.drop ll.length)) (p := (List.replicate ll.length 0, b)) ((L10.same s11).same st) ⟨sc, bl, upd_same, g3.same st, X11.Bb.same st⟩ ?_
        refine ⟨_, _, rfl, .inl ⟨rfl, rfl⟩, fun H12 s12 => ⟨_, rfl, iteF ?_⟩⟩
        exact ⟨⟨_, _, _, _, _, _, _, _, _, _, rfl⟩, (X11.same st).same s12⟩
      clear X10 S10 L10 hx x bz sz
      rintro σ' H11 ⟨⟨y2, y7, y8, y9, y10, y11, y12, y13, y14, y15, rfl⟩, X11⟩
      -- others
      obtain ⟨r0, hr0⟩ : ∃ r0, las[0]? = some r0 := ⟨_, List.getElem?_eq_getElem (by omega)⟩
      obtain ⟨b0, hb0⟩ : ∃ b0, b[0]? = some b0 := ⟨_, List.getElem?_eq_getElem (by omega)⟩
      refine ⟨fun σ' H' => ∃ (ol o0 o1 : Addr), (∃ y2 y7 y8 y9 y11 y12 y13 y14 y15, σ' = [some (.ref a), some (.ref fe), y2, some (.ref p), some (.ref bl), some (.ref wz), some (.ref pk), y7, y8, y9, some (.ref ol), y11, y12, y13, y14, y15]) ∧ X2 C fe cf p wz bl pk pA fA las ll ws b [(Pt, qLam)] H' ∧ (ol ≠ fe ∧ ol ≠ cf) ∧ H' ol = some (.lst [.ref o0, .ref o1]) ∧ OkO K C H' ll ws (b, List.replicate ll.length 0, b) o0 (decide (ws = List.replicate ll.length 0)) ∧ OkO K C H' ll ws (b, List.replicate ll.length 0, b) o1 (decide (ws = [])), ?_, ?_⟩
      · refine ⟨.ref p, rfl, .ref bl, rfl, sz_1 _, fun t1 nt1 => ?_⟩
        have st1 := same_new (o := .tup [.int 0]) nt1
        refine ⟨.ref p, rfl, p, _, rfl, .inr (SqT.of (X11.R.same st1).1), ?_⟩
        rw [List.length_map, hlen0]
        refine rep1_read upd_same (by omega) (by omega) fun z H12 s12 hz => ?_
        have X12 := (X11.same st1).same s12
        refine ⟨rfl, rfl, fun x0 dy nx ny nyx => mk_read X12.R ef X12.Bb hbl hbb hz.it okW_zero (by rw [List.length_replicate]; omega) nx ny nyx fun H13 pB fB s13 _ _ P13 => ?_⟩
        have X13 := X12.same s13
        refine ⟨.ref p, rfl, .ref bl, rfl, fun x1 dy1 nx1 ny1 nyx1 => mk_read X13.R ef X13.Bb hbl hbb (hT0 _) okW_nil (Nat.zero_le _) nx1 ny1 nyx1 fun H14 pB1 fB1 s14 _ _ P14 => ?_⟩
        have X14 := X13.same s14
        refine ⟨(by show 2 ≤ sizeLine; decide), fun ol nol => ?_⟩
        have so14 := same_new (o := .lst [.ref x0, .ref x1]) nol
        have X15 := X14.same so14
        refine ⟨ol, x0, x1, ⟨_, _, _, _, _, _, _, _, _, rfl⟩, X15, ⟨X14.F.ne nol, X14.F.neC nol⟩, upd_same, ⟨_, pB, fB, ll, _, P13.same (s14.trans so14), ⟨⟨las, X15.R⟩, (hz.same (s13.trans (s14.trans so14))).it⟩, rfl, rfl, by simp⟩, ⟨_, pB1, fB1, ll, [], P14.same so14, ⟨⟨las, X15.R⟩, hT0 _⟩, rfl, rfl, by simp⟩⟩
      clear X11
      rintro σ' H12 ⟨ol, o0, o1, ⟨y2, y7, y8, y9, y11, y12, y13, y14, y15, rfl⟩, X12, ⟨nl1, nl2⟩, L12, O0, O1⟩
      -- one more good
      refine ⟨fun σ' H' => ∃ (o2 : Addr), (∃ y2 y7 y8 y9 y11 y12 y13 y14 y15, σ' = [some (.ref a), some (.ref fe), y2, some (.ref p), some (.ref bl), some (.ref wz), some (.ref pk), y7, y8, y9, some (.ref ol), y11, y12, y13, y14, y15]) ∧ X2 C fe cf p wz bl pk pA fA las ll ws b [(Pt, qLam)] H' ∧ H' ol = some (.lst [.ref o0, .ref o1, .ref o2]) ∧ OkO K C H' ll ws (b, List.replicate ll.length 0, b) o0 (decide (ws = List.replicate ll.length 0)) ∧ OkO K C H' ll ws (b, List.replicate ll.length 0, b) o1 (decide (ws = [])) ∧ OkO K C H' ll ws (b, List.replicate ll.length 0, b) o2 false, ?_, ?_⟩
      · refine ⟨.ref ol, rfl, .inl ⟨rfl, _, SqL.of L12⟩, .ref p, rfl, .ref bl, rfl, bl, _, 0, .int b0, rfl, rfl, SqT.of X12.Bb, atI_nat (j := 0) (by rw [List.getElem?_map, hb0]; rfl), _, 1, rfl, rfl, sz_1 _, fun t1 nt1 => ?_⟩
        have st1 := same_new (o := .tup [.int (b0 + 1)]) nt1
        have ht1 : IntsAt (upd H12 t1 (.tup [.int (b0 + 1)])) t1 [b0 + 1] := upd_same
        refine ⟨.ref bl, rfl, 1, rfl, noPart ?_⟩
        refine slice_fromI (n := 1) (X12.Bb.same st1) fun p4 H13 s13 hp4 => ?_
        refine cat_ints (ht1.same s13) hp4 (by rw [List.length_singleton, List.length_drop]; omega) fun p5 H14 s14 hp5 => ?_
        have X14 := X12.same (st1.trans (s13.trans s14))
        have hb2 : ∀ z ∈ [b0 + 1] ++ b.drop 1, 0 ≤ z ∧ z < G30 := fun z hz => by
          have e30 : G30 = 1000000000000000000000000000000 := rfl
          rcases List.mem_append.mp hz with h | h
          · rw [List.mem_singleton.mp h]
            have := hbb0 b0 (List.mem_of_getElem? hb0)
            omega
          · exact hbb z (List.mem_of_mem_drop h)
        have hl2 : ([b0 + 1] ++ b.drop 1).length = width ll := by rw [List.length_append, List.length_singleton, List.length_drop]; omega
        refine ⟨.ref wz, rfl, rfl, rfl, fun x2 dy nx ny nyx => mk_read X14.R ef hp5 hl2 hb2 X14.W.it eo hwz nx ny nyx fun H15 pB fB s15 _ _ P15 => ?_⟩
        have s1F := (st1.trans (s13.trans s14)).trans s15
        have L15 := s1F _ _ L12
        refine ⟨ol, _, .ref x2, rfl, rfl, L15, (by show 2 < sizeLine; decide), ?_⟩
        refine ⟨x2, ⟨_, _, _, _, _, _, _, _, _, rfl⟩, (X14.same s15).put L15 nl1 nl2, upd_same, (O0.same s1F).put L15, (O1.same s1F).put L15, OkO.put (x := .ref o0) (xs := [.ref o1]) ⟨_, pB, fB, ll, ws, P15, ⟨⟨las, (X14.same s15).R⟩, (X14.same s15).W.it⟩, rfl, rfl, ?_⟩ L15⟩
        refine (decide_eq_false fun z => ?_).symm
        have e := congrArg (fun q : Stand => q.1[0]?) z.2.2
        simp only [hb0] at e
        simp at e
        omega
      clear X12 L12 O0 O1
      rintro σ' H13 ⟨o2, ⟨y2, y7, y8, y9, y11, y12, y13, y14, y15, rfl⟩, X13, L13, O0, O1, O2⟩
      -- one more kind
      refine ⟨fun σ' H' => ∃ (o3 : Addr), (∃ y2 y7 y8 y9 y11 y12 y13 y14 y15, σ' = [some (.ref a), some (.ref fe), y2, some (.ref p), some (.ref bl), some (.ref wz), some (.ref pk), y7, y8, y9, some (.ref ol), y11, y12, y13, y14, y15]) ∧ X2 C fe cf p wz bl pk pA fA las ll ws b [(Pt, qLam)] H' ∧ H' ol = some (.lst [.ref o0, .ref o1, .ref o2, .ref o3]) ∧ OkO K C H' ll ws (b, List.replicate ll.length 0, b) o0 (decide (ws = List.replicate ll.length 0)) ∧ OkO K C H' ll ws (b, List.replicate ll.length 0, b) o1 (decide (ws = [])) ∧ OkO K C H' ll ws (b, List.replicate ll.length 0, b) o2 false ∧ OkO K C H' ll ws (b, List.replicate ll.length 0, b) o3 false, ?_, ?_⟩
      · obtain ⟨r, hr1, hr2⟩ := X13.R.2.at hr0
        have hr2 : IntsAt H13 r0 r := hr2
        refine ⟨.ref ol, rfl, .inl ⟨rfl, _, SqL.of L13⟩, .ref p, rfl, .ref p, rfl, p, _, 0, .ref r0, rfl, rfl, SqT.of X13.R.1, atI_nat (j := 0) (by rw [List.getElem?_map, hr0]; rfl), sz_1 _, fun t1 nt1 => ?_⟩
        have st1 := same_new (o := .tup [.ref r0]) nt1
        have ht1 : RowsAt (upd H13 t1 (.tup [.ref r0])) t1 [r0] [r] := ⟨upd_same, hr2.same st1, True.intro⟩
        refine cat_rows (X13.R.same st1) ht1 (by rw [List.length_singleton]; omega) fun p5 H14 s14 hp5 => ?_
        have X14 := X13.same (st1.trans s14)
        have ef2 := flaw_same ef l4 (List.mem_of_getElem? hr1)
        have hw2 := width_app (ll := ll) (mm := [r]) l1
        refine ⟨.ref bl, rfl, fun x3 dy nx ny nyx => mk_read hp5 ef2 X14.Bb (by rw [hw2]; exact hbl) hbb (hT0 _) okW_nil (Nat.zero_le _) nx ny nyx fun H15 pB fB s15 _ _ P15 => ?_⟩
        have s1F := (st1.trans s14).trans s15
        have L15 := s1F _ _ L13
        refine ⟨ol, _, .ref x3, rfl, rfl, L15, (by show 3 < sizeLine; decide), ?_⟩
        refine ⟨x3, ⟨_, _, _, _, _, _, _, _, _, rfl⟩, (X14.same s15).put L15 nl1 nl2, upd_same, (O0.same s1F).put L15, (O1.same s1F).put L15, (O2.same s1F).put L15, OkO.put (x := .ref o0) (xs := [.ref o1, .ref o2]) ⟨_, pB, fB, ll ++ [r], [], P15, ⟨⟨_, hp5.same s15⟩, hT0 _⟩, rfl, rfl, ?_⟩ L15⟩
        refine (decide_eq_false fun z => ?_).symm
        have e := congrArg List.length z.1
        rw [List.length_append, List.length_singleton] at e
        omega
      clear X13 L13 O0 O1 O2
      rintro σ' H14 ⟨o3, ⟨y2, y7, y8, y9, y11, y12, y13, y14, y15, rfl⟩, X14, L14, O0, O1, O2, O3⟩
      -- what is wanted
      refine ⟨fun σ' H' => ∃ (wl : Addr), (∃ y2 y7 y8 y9 y12 y13 y14 y15, σ' = [some (.ref a), some (.ref fe), y2, some (.ref p), some (.ref bl), some (.ref wz), some (.ref pk), y7, y8, y9, some (.ref ol), some (.ref wl), y12, y13, y14, y15]) ∧ X2 C fe cf p wz bl pk pA fA las ll ws b [(Pt, qLam)] H' ∧ H' ol = some (.lst [.ref o0, .ref o1, .ref o2, .ref o3]) ∧ H' wl = some (.lst [.bl (decide (ws = List.replicate ll.length 0)), .bl (decide (ws = [])), .bl false, .bl false]) ∧ OkO K C H' ll ws (b, List.replicate ll.length 0, b) o0 (decide (ws = List.replicate ll.length 0)) ∧ OkO K C H' ll ws (b, List.replicate ll.length 0, b) o1 (decide (ws = [])) ∧ OkO K C H' ll ws (b, List.replicate ll.length 0, b) o2 false ∧ OkO K C H' ll ws (b, List.replicate ll.length 0, b) o3 false, ?_, ?_⟩
      · refine ⟨.ref wz, rfl, sz_1 _, fun t1 nt1 => ?_⟩
        have st1 := same_new (o := .tup [.int 0]) nt1
        refine ⟨.ref p, rfl, p, _, rfl, .inr (SqT.of (X14.R.same st1).1), ?_⟩
        rw [List.length_map, hlen0]
        refine rep1_read upd_same (by omega) (by omega) fun z H15 s15 hz => ?_
        have X15 := (X14.same st1).same s15
        refine ⟨.tuple (ws.map .int), .tuple ((List.replicate ll.length (0 : Int)).map .int), dq_row X15.W, dq_row hz, row_shaped _, row_shaped _, ?_⟩
        rw [dq_eqv]
        refine ⟨.ref wz, rfl, Nat.zero_le _, fun t2 nt2 => ?_⟩
        have st2 := same_new (o := .tup []) nt2
        have X16 := X15.same st2
        refine ⟨.tuple (ws.map .int), .tuple [], dq_row X16.W, .tup (SqT.of upd_same) .nil, row_shaped _, by decide, ?_⟩
        rw [eqv_nil]
        refine ⟨(by show 4 ≤ sizeLine; decide), fun wl nwl => ?_⟩
        have sw := same_new (o := .lst [.bl (decide (ws = List.replicate ll.length 0)), .bl (decide (ws = [])), .bl false, .bl false]) nwl
        have s1F := st1.trans (s15.trans (st2.trans sw))
        exact ⟨wl, ⟨_, _, _, _, _, _, _, _, rfl⟩, X16.same sw, s1F _ _ L14, upd_same, O0.same s1F, O1.same s1F, O2.same s1F, O3.same s1F⟩
      clear X14 L14 O0 O1 O2 O3
      rintro σ' H15 ⟨wl, ⟨y2, y7, y8, y9, y12, y13, y14, y15, rfl⟩, X15, L15, V15, O0, O1, O2, O3⟩
      -- == and !=
      refine ⟨fun σ' H' => (∃ y2 y7 y8 y9 y10 y11 y12 y13 y14 y15, σ' = [some (.ref a), some (.ref fe), y2, some (.ref p), some (.ref bl), some (.ref wz), some (.ref pk), y7, y8, y9, y10, y11, y12, y13, y14, y15]) ∧ X2 C fe cf p wz bl pk pA fA las ll ws b [(Pt, qLam)] H', ?_, ?_⟩
      · refine ⟨4, rfl, by decide, by decide, ?_⟩
        refine for_range (lo := 0) (n := 4) (fun i σ' H' => (∃ y2 y7 y8 y9 y12 y13 y14 y15, σ' = [some (.ref a), some (.ref fe), y2, some (.ref p), some (.ref bl), some (.ref wz), some (.ref pk), y7, y8, y9, some (.ref ol), some (.ref wl), y12, y13, y14, y15]) ∧ H' = H15) ⟨⟨_, _, _, _, _, _, _, _, rfl⟩, rfl⟩ (fun i σ H16 hi hI => ?_) (fun σ H16 hI => ?_)
        rotate_left
        · obtain ⟨⟨y2, y7, y8, y9, y12, y13, y14, y15, rfl⟩, hE⟩ := hI
          subst hE
          exact ⟨⟨_, _, _, _, _, _, _, _, _, _, rfl⟩, X15⟩
        obtain ⟨⟨y2, y7, y8, y9, y12, y13, y14, y15, rfl⟩, hE⟩ := hI
        subst hE
        obtain ⟨oi, ri, ei, fi, hO⟩ : ∃ (oi : Addr) (ri : Bool), [o0, o1, o2, o3][i]? = some oi ∧ [decide (ws = List.replicate ll.length 0), decide (ws = []), false, false][i]? = some ri ∧ OkO K C _ ll ws (b, List.replicate ll.length 0, b) oi ri := by
          match i, hi with
          | 0, _ => exact ⟨o0, _, rfl, rfl, O0⟩
          | 1, _ => exact ⟨o1, _, rfl, rfl, O1⟩
          | 2, _ => exact ⟨o2, _, rfl, rfl, O2⟩
          | 3, _ => exact ⟨o3, _, rfl, rfl, O3⟩
          | n + 4, h => omega
        have eat : (0 : Int) + ((i : Nat) : Int) = ((i : Nat) : Int) := by omega
        rw [eat]
        obtain ⟨k2, pB, fB, ll2, ws2, hP2, hL2, _, _, er⟩ := hO
        obtain ⟨dx, s', h1, _⟩ := X15.P.ob
        obtain ⟨dx2, s2, g1, _⟩ := hP2.ob
        have eo1 : [V.ref o0, V.ref o1, V.ref o2, V.ref o3][i]? = some (.ref oi) := by
          have : [V.ref o0, V.ref o1, V.ref o2, V.ref o3] = [o0, o1, o2, o3].map V.ref := rfl
          rw [this, List.getElem?_map, ei]
          rfl
        have eo2 : [V.bl (decide (ws = List.replicate ll.length 0)), V.bl (decide (ws = [])), V.bl false, V.bl false][i]? = some (.bl ri) := by
          have : [V.bl (decide (ws = List.replicate ll.length 0)), V.bl (decide (ws = [])), V.bl false, V.bl false] = [decide (ws = List.replicate ll.length 0), decide (ws = []), false, false].map V.bl := rfl
          rw [this, List.getElem?_map, fi]
          rfl
        have lw : LotW K ll ws _ (⟨p, wz, (b, List.replicate ll.length 0, b), [], [], .non⟩ : Pk) := ⟨⟨las, X15.R⟩, X15.W.it⟩
        refine ⟨.ref pk, rfl, .ref ol, rfl, .int (i : Nat), rfl, ol, _, _, .ref oi, rfl, rfl, SqL.of L15, atI_nat eo1, ?_⟩
        refine ⟨pk, dx, _, rfl, h1, .ins g1, pk, .ref oi, _, pA, fA, ll, ws, ri, rfl, X15.P, lw, .inr (.inr ⟨oi, k2, pB, fB, ll2, ws2, rfl, hP2, hL2, er⟩), ri, rfl, ?_⟩
        refine ⟨.ref wl, rfl, .int (i : Nat), rfl, wl, _, _, .bl ri, rfl, rfl, SqL.of V15, atI_nat eo2, rfl, ?_⟩
        rw [decide_eq_true rfl]
        refine ⟨_, rfl, iteF ?_⟩
        refine ⟨.ref pk, rfl, .ref ol, rfl, .int (i : Nat), rfl, ol, _, _, .ref oi, rfl, rfl, SqL.of L15, atI_nat eo1, ?_⟩
        refine ⟨pk, dx, _, oi, dx2, _, rfl, h1, rfl, g1, pk, .ref oi, _, pA, fA, ll, ws, ri, rfl, X15.P, lw, .inr (.inr ⟨oi, k2, pB, fB, ll2, ws2, rfl, hP2, hL2, er⟩), ri, rfl, ?_⟩
        refine ⟨.ref wl, rfl, .int (i : Nat), rfl, wl, _, _, .bl ri, rfl, rfl, SqL.of V15, atI_nat eo2, rfl, ?_⟩
        have ne : decide (V.bl (!ri) = V.bl ri) = false := by cases ri <;> decide
        rw [ne]
        exact ⟨_, rfl, iteF ⟨⟨_, _, _, _, _, _, _, _, rfl⟩, rfl⟩⟩
      clear L15 V15 O0 O1 O2 O3 o0 o1 o2 o3 ol wl X15 nl1 nl2
      rintro σ' H16 ⟨⟨y2, y7, y8, y9, y10, y11, y12, y13, y14, y15, rfl⟩, X16⟩
      -- like itself, like no row, like no text
      refine ⟨fun σ' H' => (∃ y2 y7 y8 y9 y10 y11 y12 y13 y14 y15, σ' = [some (.ref a), some (.ref fe), y2, some (.ref p), some (.ref bl), some (.ref wz), some (.ref pk), y7, y8, y9, y10, y11, y12, y13, y14, y15]) ∧ X2 C fe cf p wz bl pk pA fA las ll ws b [(Pt, qLam)] H', ?_, ?_⟩
      · refine ⟨.ref pk, rfl, .ref wz, rfl, .ref bl, rfl, .ref p, rfl, rfl, rfl, fun x dy nx ny nyx => mk_read X16.R ef X16.Bb hbl hbb X16.W.it eo hwz nx ny nyx fun H17 pB fB s17 _ _ P17 => ?_⟩
        have X17 := X16.same s17
        obtain ⟨dx, s', h1, _⟩ := X17.P.ob
        obtain ⟨dx2, s2, g1, _⟩ := P17.ob
        have lw : LotW K ll ws H17 (⟨p, wz, (b, List.replicate ll.length 0, b), [], [], .non⟩ : Pk) := ⟨⟨las, X17.R⟩, X17.W.it⟩
        refine ⟨pk, dx, _, x, dx2, _, rfl, h1, rfl, g1, pk, .ref x, _, pA, fA, ll, ws, true, rfl, X17.P, lw, .inr (.inr ⟨x, _, pB, fB, ll, ws, rfl, P17, lw, by simp⟩), true, rfl, ?_⟩
        refine ⟨_, rfl, iteF ?_⟩
        refine ⟨.ref pk, rfl, .ref bl, rfl, pk, dx, _, rfl, h1, .tup X17.Bb, pk, .ref bl, _, pA, fA, ll, ws, false, rfl, X17.P, lw, .inl ⟨bl, _, rfl, X17.Bb, rfl⟩, false, rfl, ?_⟩
        refine ⟨_, rfl, iteF ?_⟩
        have c1 := so.c1
        refine ⟨.ref pk, rfl, .ref pk, rfl, pk, dx, _, rfl, h1, pk, _, pA, fA, rfl, X17.P, by show (List.replicate ll.length (0 : Int)).length ≤ 100; rw [List.length_replicate]; omega, so.sn (by omega), fun H18 s18 => ⟨_, rfl, ?_⟩⟩
        have X18 := X17.same s18
        have lw18 : LotW K ll ws H18 (⟨p, wz, (b, List.replicate ll.length 0, b), [], [], .non⟩ : Pk) := ⟨⟨las, X18.R⟩, X18.W.it⟩
        exact ⟨pk, dx, _, rfl, s18 _ _ h1, .str, pk, .str _, _, pA, fA, ll, ws, false, rfl, X18.P, lw18, .inr (.inl ⟨_, rfl, rfl⟩), false, rfl, ⟨_, rfl, iteF ⟨⟨_, _, _, _, _, _, _, _, _, _, rfl⟩, X18⟩⟩⟩
      clear X16
      rintro σ' H17 ⟨⟨y2, y7, y8, y9, y10, y11, y12, y13, y14, y15, rfl⟩, X17⟩
      -- an odd wish
      refine ⟨fun σ' H' => ∃ (od : Addr), (∃ y2 y5 y6 y7 y8 y9 y10 y11 y12 y14 y15, σ' = [some (.ref a), some (.ref fe), y2, some (.ref p), some (.ref bl), y5, y6, y7, y8, y9, y10, y11, y12, some (.ref od), y14, y15]) ∧ X2 C fe cf p wz bl pk pA fA las ll ws b [(Pt, qLam)] H' ∧ IntsAt H' od (List.replicate ll.length 100), ?_, ?_⟩
      · refine ⟨sz_1 _, fun t1 nt1 => ?_⟩
        have st1 := same_new (o := .tup [.int 100]) nt1
        refine ⟨.ref p, rfl, p, _, rfl, .inr (SqT.of (X17.R.same st1).1), ?_⟩
        rw [List.length_map, hlen0]
        refine rep1_read upd_same (by omega) (by omega) fun z H18 s18 hz => ?_
        exact ⟨z, ⟨_, _, _, _, _, _, _, _, _, _, _, rfl⟩, (X17.same st1).same s18, hz⟩
      clear X17
      rintro σ' H18 ⟨od, ⟨y2, y5, y6, y7, y8, y9, y10, y11, y12, y14, y15, rfl⟩, X18, D18⟩
      -- a bad lot
      refine ⟨fun σ' H' => ∃ (wo : Addr), (∃ y2 y5 y6 y7 y8 y9 y10 y11 y12 y15, σ' = [some (.ref a), some (.ref fe), y2, some (.ref p), some (.ref bl), y5, y6, y7, y8, y9, y10, y11, y12, some (.ref od), some (.ref wo), y15]) ∧ X2 C fe cf p wz bl pk pA fA las ll ws b [(Pt, qLam)] H' ∧ IntsAt H' od (List.replicate ll.length 100) ∧ H' wo = some (.lst [.str "bad lot"]) ∧ wo ≠ fe ∧ wo ≠ cf, ?_, ?_⟩
      · refine ⟨X18.TB, fun H19 e19 T19 => ?_⟩
        have X19 := X18.ext e19 T19
        have D19 := D18.ext e19
        refine ⟨.ref p, rfl, Nat.zero_le _, fun t1 nt1 => ⟨sz_1 _, fun t2 nt2 => ?_⟩⟩
        have st1 := same_new (o := .tup []) nt1
        have st2 := same_new (o := .tup [.ref t1]) nt2
        have ht : RowsAt (upd (upd H19 t1 (.tup [])) t2 (.tup [.ref t1])) t2 [t1] [[]] := ⟨upd_same, st2 _ _ upd_same, True.intro⟩
        refine cat_rows ((X19.R.same st1).same st2) ht (by rw [List.length_singleton]; omega) fun p5 H20 s20 hp5 => ⟨Nat.zero_le _, fun t3 nt3 => ?_⟩
        have st3 := same_new (o := .tup []) nt3
        have s1F := (st1.trans st2).trans (s20.trans st3)
        have X20 := X19.same s1F
        have D20 := D19.same s1F
        have hB : IntsAt (upd H20 t3 (.tup [])) t3 [] := upd_same
        refine ⟨.ref od, rfl, rfl, rfl, fun x dy nx ny nyx => mk_bad (hp5.same st3) (by rw [List.length_append, List.length_singleton]; omega) (fun r hr => ?_) hB (by decide) D20.it (by rw [List.length_replicate]; omega) nx ny nyx (.inl ⟨flaw_bad ef, fun H21 s21 => caught T.f1 fun H22 t s22 e22 => ?_⟩)⟩
        · rcases List.mem_append.mp hr with h | h
          · have := (hrw r h).1; omega
          · rw [List.mem_singleton.mp h]; exact Nat.zero_le _
        refine ⟨t, _, 1, .str "bad lot", rfl, rfl, SqT.of e22, atI_nat (j := 1) rfl, (by show 1 ≤ sizeLine; decide), fun wo nwo => ?_⟩
        have X22 := X20.same (s21.trans s22)
        have sw := same_new (o := .lst [.str "bad lot"]) nwo
        exact ⟨wo, ⟨_, _, _, _, _, _, _, _, _, _, rfl⟩, X22.same sw, (D20.same (s21.trans s22)).same sw, upd_same, X22.F.ne nwo, X22.F.neC nwo⟩
      clear X18 D18
      rintro σ' H19 ⟨wo, ⟨y2, y5, y6, y7, y8, y9, y10, y11, y12, y15, rfl⟩, X19, D19, L19, n1, n2⟩
      -- a bad bill
      refine ⟨fun σ' H' => (∃ y2 y5 y6 y7 y8 y9 y10 y11 y12 y15, σ' = [some (.ref a), some (.ref fe), y2, some (.ref p), some (.ref bl), y5, y6, y7, y8, y9, y10, y11, y12, some (.ref od), some (.ref wo), y15]) ∧ X2 C fe cf p wz bl pk pA fA las ll ws b [(Pt, qLam)] H' ∧ IntsAt H' od (List.replicate ll.length 100) ∧ H' wo = some (.lst [.str "bad lot", .str "bad bill"]), ?_, ?_⟩
      · refine ⟨.ref wo, rfl, .inl ⟨rfl, _, SqL.of L19⟩, X19.TB, fun H20 e20 T20 => ?_⟩
        have X20 := X19.ext e20 T20
        have D20 := D19.ext e20
        have L20 := e20 _ _ L19 (fun ps z => by cases z)
        refine ⟨.ref p, rfl, .ref bl, rfl, sz_1 _, fun t1 nt1 => ?_⟩
        have st1 := same_new (o := .tup [.int 0]) nt1
        have ht1 : IntsAt (upd H20 t1 (.tup [.int 0])) t1 [0] := upd_same
        refine cat_ints (X20.Bb.same st1) ht1 (by rw [List.length_singleton]; omega) fun p5 H21 s21 hp5 => ?_
        have s1F := st1.trans s21
        have X21 := X20.same s1F
        have D21 := D20.same s1F
        refine ⟨.ref od, rfl, rfl, rfl, fun x dy nx ny nyx => mk_bad X21.R (by omega) (fun r hr => by have := (hrw r hr).1; omega) hp5 (by rw [List.length_append, List.length_singleton]; omega) D21.it (by rw [List.length_replicate]; omega) nx ny nyx (.inr (.inl ⟨ef, wrong_ne (by rw [List.length_append, List.length_singleton]; omega), fun H22 s22 => caught T.f2 fun H23 t s23 e23 => ?_⟩))⟩
        have s2F := s22.trans s23
        have X23 := X21.same s2F
        have L23 := (s1F.trans s2F) _ _ L20
        refine ⟨t, _, 1, .str "bad bill", rfl, rfl, SqT.of e23, atI_nat (j := 1) rfl, wo, _, .str "bad bill", rfl, rfl, L23, (by show 1 < sizeLine; decide), ?_⟩
        exact ⟨⟨_, _, _, _, _, _, _, _, _, _, rfl⟩, X23.put L23 n1 n2, ints_kt (D21.same s2F) (KT.put L23), upd_same⟩
      clear X19 D19 L19
      rintro σ' H20 ⟨⟨y2, y5, y6, y7, y8, y9, y10, y11, y12, y15, rfl⟩, X20, D20, L20⟩
      -- a bad wish
      refine ⟨fun σ' H' => (∃ y2 y5 y6 y7 y8 y9 y10 y11 y12 y13 y15, σ' = [some (.ref a), some (.ref fe), y2, some (.ref p), some (.ref bl), y5, y6, y7, y8, y9, y10, y11, y12, y13, some (.ref wo), y15]) ∧ X2 C fe cf p wz bl pk pA fA las ll ws b [(Pt, qLam)] H' ∧ H' wo = some (.lst [.str "bad lot", .str "bad bill", .str "bad wish"]), ?_, ?_⟩
      · refine ⟨.ref wo, rfl, .inl ⟨rfl, _, SqL.of L20⟩, X20.TB, fun H21 e21 T21 => ?_⟩
        have X21 := X20.ext e21 T21
        have D21 := D20.ext e21
        have L21 := e21 _ _ L20 (fun ps z => by cases z)
        refine ⟨.ref p, rfl, .ref bl, rfl, .ref od, rfl, rfl, rfl, fun x dy nx ny nyx => mk_bad X21.R (by omega) (fun r hr => by have := (hrw r hr).1; omega) X21.Bb (by omega) D21.it (by rw [List.length_replicate]; omega) nx ny nyx (.inr (.inr ⟨ef, wrong_of hbl hbb, okW_bad l1, fun H22 s22 => caught T.f3 fun H23 t s23 e23 => ?_⟩))⟩
        have s2F := s22.trans s23
        have X23 := X21.same s2F
        have L23 := s2F _ _ L21
        refine ⟨t, _, 1, .str "bad wish", rfl, rfl, SqT.of e23, atI_nat (j := 1) rfl, wo, _, .str "bad wish", rfl, rfl, L23, (by show 2 < sizeLine; decide), ?_⟩
        exact ⟨⟨_, _, _, _, _, _, _, _, _, _, _, rfl⟩, X23.put L23 n1 n2, upd_same⟩
      clear X20 D20 L20
      rintro σ' H21 ⟨⟨y2, y5, y6, y7, y8, y9, y10, y11, y12, y13, y15, rfl⟩, X21, L21⟩
      refine ⟨.ref wo, rfl, (by show 3 ≤ sizeLine; decide), fun u nu => ?_⟩
      have su := same_new (o := .lst [.str "bad lot", .str "bad bill", .str "bad wish"]) nu
      have dd : ∀ {H : Hp} {x : Addr}, H x = some (.lst [.str "bad lot", .str "bad bill", .str "bad wish"]) → Dp K H (.ref x) (.list [.str "bad lot", .str "bad bill", .str "bad wish"]) := fun h => .lst (SqL.of h) (.cons (.str _) (.cons (.str _) (.cons (.str _) .nil)))
      refine ⟨.list [.str "bad lot", .str "bad bill", .str "bad wish"], .list [.str "bad lot", .str "bad bill", .str "bad wish"], dd (su _ _ L21), dd upd_same, by decide +kernel, by decide +kernel, ?_⟩
      have ee : PyData.eqv (.list [.str "bad lot", .str "bad bill", .str "bad wish"]) (.list [.str "bad lot", .str "bad bill", .str "bad wish"]) = true := by decide +kernel
      rw [ee]
      exact ⟨_, rfl, iteF ⟨⟨_, _, _, _, _, _, _, _, _, _, _, _, _, _, rfl⟩, X21.F.same su, X21.TB.ext su⟩⟩

    obtain ⟨t, h1, h2⟩ := build
    exact ⟨t, h1.nox, h2⟩
end
end HL

set_option pp.maxSteps 300
namespace HL
open PySem PySem.Spec PyProof.Rows L2
open LamX (Tabs TabS TabB LawAtS)
/-- whether an error of the class T is what an except clause of S takes -/
theorem exm_by {K : PySem.W.Frag} {S T : Addr} {b : Bool} (h1 : PySem.W.subIn K (.ref S) (.type "BaseException") = some true) (h2 : PySem.W.isClsIn K S = true) (h3 : PySem.W.typeIn K (.ref S) = some (.type "type"))
    (h4 : PySem.W.subIn K (.ref T) (.ref S) = some b) : PySem.W.exmOne K (.ref T) (.ref S) = some b := by
  have e1 : (PySem.W.subIn K (.ref S) (.type "BaseException") == some true) = true := by rw [h1] <;> rfl
  have e2 : ((PySem.W.clsIn K S).isSome && PySem.W.typeIn K (.ref S) == some (.type "type")) = true := by
    have h2' : (PySem.W.clsIn K S).isSome = true := h2
    rw [h2', h3] <;> rfl
  show (if (PySem.W.subIn K (.ref S) (.type "BaseException") == some true) = true then (if ((PySem.W.clsIn K S).isSome && PySem.W.typeIn K (.ref S) == some (.type "type")) = true then PySem.W.subIn K (.ref T) (.ref S) else none) else none) = some b
  rw [if_pos e1, if_pos e2]
  exact h4
theorem rev_vals {zs : List V} {ws : List Value} (r : Vals zs ws) : Vals zs.reverse ws.reverse := by
  induction r with
  | nil => exact .nil
  | cons r t ih =>
    rw [List.reverse_cons, List.reverse_cons]
    exact ih.append (.cons r .nil)
theorem all_mk {l : PySem.W.OpenLaw} {w : World} {K : PySem.W.Frag} {h : Heap} {mg : Str → Option Value} {fa : Addr} (X : K.In h) (G : h.Ns mainGlobals mg) (hfa : mg "law" = some (.ref fa))
    {f0 : Addr} {oc0 kV0 dc0 pm0 cd0 ct0 : Value} {od0 an0 : Option Addr} {sl0 : Array (Option Value)}
    {f1 : Addr} {oc1 kV1 dc1 pm1 cd1 ct1 : Value} {od1 an1 : Option Addr} {sl1 : Array (Option Value)}
    {f2 : Addr} {oc2 kV2 dc2 pm2 cd2 ct2 : Value} {od2 an2 : Option Addr} {sl2 : Array (Option Value)}
    {f3 : Addr} {oc3 kV3 dc3 pm3 cd3 ct3 : Value} {od3 an3 : Option Addr} {sl3 : Array (Option Value)}
    {f4 : Addr} {oc4 kV4 dc4 pm4 cd4 ct4 : Value} {od4 an4 : Option Addr} {sl4 : Array (Option Value)}
    {f5 : Addr} {oc5 kV5 dc5 pm5 cd5 ct5 : Value} {od5 an5 : Option Addr} {sl5 : Array (Option Value)}
    {f6 : Addr} {oc6 kV6 dc6 pm6 cd6 ct6 : Value} {od6 an6 : Option Addr} {sl6 : Array (Option Value)}
    {f7 : Addr} {oc7 kV7 dc7 pm7 cd7 ct7 : Value} {od7 an7 : Option Addr} {sl7 : Array (Option Value)}
    {f8 : Addr} {oc8 kV8 dc8 pm8 cd8 ct8 : Value} {od8 an8 : Option Addr} {sl8 : Array (Option Value)}
    {f9 : Addr} {oc9 kV9 dc9 pm9 cd9 ct9 : Value} {od9 an9 : Option Addr} {sl9 : Array (Option Value)}
    {f10 : Addr} {oc10 kV10 dc10 pm10 cd10 ct10 : Value} {od10 an10 : Option Addr} {sl10 : Array (Option Value)}
    {f11 : Addr} {oc11 kV11 dc11 pm11 cd11 ct11 : Value} {od11 an11 : Option Addr} {sl11 : Array (Option Value)}
    {f12 : Addr} {oc12 kV12 dc12 pm12 cd12 ct12 : Value} {od12 an12 : Option Addr} {sl12 : Array (Option Value)}
    {f13 : Addr} {oc13 kV13 dc13 pm13 cd13 ct13 : Value} {od13 an13 : Option Addr} {sl13 : Array (Option Value)}
    {f14 : Addr} {oc14 kV14 dc14 pm14 cd14 ct14 : Value} {od14 an14 : Option Addr} {sl14 : Array (Option Value)}
    {f15 : Addr} {oc15 kV15 dc15 pm15 cd15 ct15 : Value} {od15 an15 : Option Addr} {sl15 : Array (Option Value)}
    {f16 : Addr} {oc16 kV16 dc16 pm16 cd16 ct16 : Value} {od16 an16 : Option Addr} {sl16 : Array (Option Value)}
    {f17 : Addr} {oc17 kV17 dc17 pm17 cd17 ct17 : Value} {od17 an17 : Option Addr} {sl17 : Array (Option Value)}
    {f18 : Addr} {oc18 kV18 dc18 pm18 cd18 ct18 : Value} {od18 an18 : Option Addr} {sl18 : Array (Option Value)}
    {f19 : Addr} {oc19 kV19 dc19 pm19 cd19 ct19 : Value} {od19 an19 : Option Addr} {sl19 : Array (Option Value)}
    {f20 : Addr} {oc20 kV20 dc20 pm20 cd20 ct20 : Value} {od20 an20 : Option Addr} {sl20 : Array (Option Value)}
    {f21 : Addr} {oc21 kV21 dc21 pm21 cd21 ct21 : Value} {od21 an21 : Option Addr} {sl21 : Array (Option Value)}
    {f22 : Addr} {oc22 kV22 dc22 pm22 cd22 ct22 : Value} {od22 an22 : Option Addr} {sl22 : Array (Option Value)}
    {f23 : Addr} {oc23 kV23 dc23 pm23 cd23 ct23 : Value} {od23 an23 : Option Addr} {sl23 : Array (Option Value)}
    {f24 : Addr} {oc24 kV24 dc24 pm24 cd24 ct24 : Value} {od24 an24 : Option Addr} {sl24 : Array (Option Value)}
    {f25 : Addr} {oc25 kV25 dc25 pm25 cd25 ct25 : Value} {od25 an25 : Option Addr} {sl25 : Array (Option Value)}
    {f26 : Addr} {oc26 kV26 dc26 pm26 cd26 ct26 : Value} {od26 an26 : Option Addr} {sl26 : Array (Option Value)}
    {f27 : Addr} {oc27 kV27 dc27 pm27 cd27 ct27 : Value} {od27 an27 : Option Addr} {sl27 : Array (Option Value)}
    {f28 : Addr} {oc28 kV28 dc28 pm28 cd28 ct28 : Value} {od28 an28 : Option Addr} {sl28 : Array (Option Value)}
    {f29 : Addr} {oc29 kV29 dc29 pm29 cd29 ct29 : Value} {od29 an29 : Option Addr} {sl29 : Array (Option Value)}
    {f30 : Addr} {oc30 kV30 dc30 pm30 cd30 ct30 : Value} {od30 an30 : Option Addr} {sl30 : Array (Option Value)}
    {f31 : Addr} {oc31 kV31 dc31 pm31 cd31 ct31 : Value} {od31 an31 : Option Addr} {sl31 : Array (Option Value)}
    {f32 : Addr} {oc32 kV32 dc32 pm32 cd32 ct32 : Value} {od32 an32 : Option Addr} {sl32 : Array (Option Value)}
    {f33 : Addr} {oc33 kV33 dc33 pm33 cd33 ct33 : Value} {od33 an33 : Option Addr} {sl33 : Array (Option Value)}
    {f34 : Addr} {oc34 kV34 dc34 pm34 cd34 ct34 : Value} {od34 an34 : Option Addr} {sl34 : Array (Option Value)}
    {f35 : Addr} {oc35 kV35 dc35 pm35 cd35 ct35 : Value} {od35 an35 : Option Addr} {sl35 : Array (Option Value)}
    {f36 : Addr} {oc36 kV36 dc36 pm36 cd36 ct36 : Value} {od36 an36 : Option Addr} {sl36 : Array (Option Value)}
    {f37 : Addr} {oc37 kV37 dc37 pm37 cd37 ct37 : Value} {od37 an37 : Option Addr} {sl37 : Array (Option Value)}
    {f38 : Addr} {oc38 kV38 dc38 pm38 cd38 ct38 : Value} {od38 an38 : Option Addr} {sl38 : Array (Option Value)}
    {f39 : Addr} {oc39 kV39 dc39 pm39 cd39 ct39 : Value} {od39 an39 : Option Addr} {sl39 : Array (Option Value)}
    {f40 : Addr} {oc40 kV40 dc40 pm40 cd40 ct40 : Value} {od40 an40 : Option Addr} {sl40 : Array (Option Value)}
    {f41 : Addr} {oc41 kV41 dc41 pm41 cd41 ct41 : Value} {od41 an41 : Option Addr} {sl41 : Array (Option Value)}
    {fLe TLe : Addr} {ocLe kVLe dcLe pmLe cdLe ctLe ocTLe : Value} {odLe anLe odTLe : Option Addr} {slLe slTLe : Array (Option Value)} {tkLe : Tok} {nTLe : Nat}
    {fBL DBL : Addr} {ocBL dcBL pmBL cdBL ctBL : Value} {odBL anBL : Option Addr} {slBL : Array (Option Value)} {EBL : Addr} {slTBL : Array (Option Value)} {ddTBL : Option Addr} {nTBL : Nat}
    {fL cL Pt : Addr} {ocL kVL dcL pmL ctL : Value} {odL anL : Option Addr} {slL : Array (Option Value)}
    {C1 CE1 fI1 N1 : Addr} {nm1 q1 : Str} {bs1 : List Value} {sn1 : List Str} {sub1 : List Value} {ab1 : Bool} {col1 : Option Bool} {dd1 : Option Addr} {m01 m11 m21 m31 m51 : Option Value} {ocI1 kVI1 dcI1 pmI1 cdI1 ctI1 : Value} {odI1 anI1 : Option Addr} {slI1 : Array (Option Value)}
    {C3 CE3 fI3 N3 : Addr} {nm3 q3 : Str} {bs3 : List Value} {sn3 : List Str} {sub3 : List Value} {ab3 : Bool} {col3 : Option Bool} {dd3 : Option Addr} {m03 m13 m23 m33 m53 : Option Value} {ocI3 kVI3 dcI3 pmI3 cdI3 ctI3 : Value} {odI3 anI3 : Option Addr} {slI3 : Array (Option Value)}
    {C2 CE2 fI2 N2 : Addr} {nm2 q2 : Str} {bs2 : List Value} {sn2 : List Str} {sub2 : List Value} {ab2 : Bool} {col2 : Option Bool} {dd2 : Option Addr} {m02 m12 m22 m32 m52 : Option Value} {ocI2 kVI2 dcI2 pmI2 cdI2 ctI2 : Value} {odI2 anI2 : Option Addr} {slI2 : Array (Option Value)}
    {CS fSI : Addr} {ocSI kVSI dcSI pmSI cdSI ctSI : Value} {odSI anSI : Option Addr} {slSI : Array (Option Value)}
    {t6 : Tok}
    {t5 : Tok}
    {t3 : Tok}
    {t30 : Tok}
    {t99 : Tok}
    {CP : Addr}
    {EPI : Addr} {slTPI : Array (Option Value)} {ddTPI : Option Addr} {nTPI : Nat}
    {fPI DPI : Addr} {ocPI dcPI pmPI cdPI ctPI : Value} {odPI anPI : Option Addr} {slPI : Array (Option Value)}
    {fPLt : Addr} {ocPLt kVPLt dcPLt pmPLt cdPLt ctPLt : Value} {odPLt anPLt : Option Addr} {slPLt : Array (Option Value)}
    {fPBl : Addr} {ocPBl kVPBl dcPBl pmPBl cdPBl ctPBl : Value} {odPBl anPBl : Option Addr} {slPBl : Array (Option Value)}
    {fPWs : Addr} {ocPWs kVPWs dcPWs pmPWs cdPWs ctPWs : Value} {odPWs anPWs : Option Addr} {slPWs : Array (Option Value)}
    {fPCn : Addr} {ocPCn kVPCn dcPCn pmPCn cdPCn ctPCn : Value} {odPCn anPCn : Option Addr} {slPCn : Array (Option Value)}
    {fPLo : Addr} {ocPLo kVPLo dcPLo pmPLo cdPLo ctPLo : Value} {odPLo anPLo : Option Addr} {slPLo : Array (Option Value)}
    {fPBs : Addr} {ocPBs kVPBs dcPBs pmPBs cdPBs ctPBs : Value} {odPBs anPBs : Option Addr} {slPBs : Array (Option Value)}
    {fPIB : Addr} {ocPIB kVPIB dcPIB pmPIB cdPIB ctPIB : Value} {odPIB anPIB : Option Addr} {slPIB : Array (Option Value)}
    {fPLf : Addr} {ocPLf kVPLf dcPLf pmPLf cdPLf ctPLf : Value} {odPLf anPLf : Option Addr} {slPLf : Array (Option Value)}
    {fPHa : Addr} {ocPHa kVPHa dcPHa pmPHa cdPHa ctPHa : Value} {odPHa anPHa : Option Addr} {slPHa : Array (Option Value)}
    {fPLn : Addr} {ocPLn kVPLn dcPLn pmPLn cdPLn ctPLn : Value} {odPLn anPLn : Option Addr} {slPLn : Array (Option Value)}
    {fPEq : Addr} {ocPEq kVPEq dcPEq pmPEq cdPEq ctPEq : Value} {odPEq anPEq : Option Addr} {slPEq : Array (Option Value)}
    {fPSr : Addr} {ocPSr kVPSr dcPSr pmPSr cdPSr ctPSr : Value} {odPSr anPSr : Option Addr} {slPSr : Array (Option Value)}
    {fPRp : Addr} {ocPRp kVPRp dcPRp pmPRp cdPRp ctPRp : Value} {odPRp anPRp : Option Addr} {slPRp : Array (Option Value)}
    {E1 E2 E3 : Addr}
    (hTab : h.get? Pt = some (PySem.W.tabObj #[]))
    (a0 : PySem.W.nsIn K mainGlobals "is_hold" = some (some (.ref f0)))
    (l0 : K.lookup f0 = some ⟨oc0, od0, .func (PySem.W.fnOf "is_hold" "is_hold" (defArgs sIsHold) (defBody sIsHold) (defScope sIsHold) .none kV0 dc0 pm0 an0 cd0 ct0), sl0⟩)
    (c0 : PySem.W.codeIn K cd0 "is_hold" = true)
    (k0 : PySem.W.keepIn K (.ref f0) = true)
    (a1 : PySem.W.nsIn K mainGlobals "look_lot" = some (some (.ref f1)))
    (l1 : K.lookup f1 = some ⟨oc1, od1, .func (PySem.W.fnOf "look_lot" "look_lot" (defArgs sLook) (defBody sLook) (defScope sLook) .none kV1 dc1 pm1 an1 cd1 ct1), sl1⟩)
    (c1 : PySem.W.codeIn K cd1 "look_lot" = true)
    (k1 : PySem.W.keepIn K (.ref f1) = true)
    (a2 : PySem.W.nsIn K mainGlobals "goods_of" = some (some (.ref f2)))
    (l2 : K.lookup f2 = some ⟨oc2, od2, .func (PySem.W.fnOf "goods_of" "goods_of" (defArgs sGoods) (defBody sGoods) (defScope sGoods) .none kV2 dc2 pm2 an2 cd2 ct2), sl2⟩)
    (c2 : PySem.W.codeIn K cd2 "goods_of" = true)
    (k2 : PySem.W.keepIn K (.ref f2) = true)
    (a3 : PySem.W.nsIn K mainGlobals "first_wrong" = some (some (.ref f3)))
    (l3 : K.lookup f3 = some ⟨oc3, od3, .func (PySem.W.fnOf "first_wrong" "first_wrong" (defArgs sFirst) (defBody sFirst) (defScope sFirst) .none kV3 dc3 pm3 an3 cd3 ct3), sl3⟩)
    (c3 : PySem.W.codeIn K cd3 "first_wrong" = true)
    (k3 : PySem.W.keepIn K (.ref f3) = true)
    (a4 : PySem.W.nsIn K mainGlobals "look_bill" = some (some (.ref f4)))
    (l4 : K.lookup f4 = some ⟨oc4, od4, .func (PySem.W.fnOf "look_bill" "look_bill" (defArgs sLookBill) (defBody sLookBill) (defScope sLookBill) .none kV4 dc4 pm4 an4 cd4 ct4), sl4⟩)
    (c4 : PySem.W.codeIn K cd4 "look_bill" = true)
    (k4 : PySem.W.keepIn K (.ref f4) = true)
    (a5 : PySem.W.nsIn K mainGlobals "packed" = some (some (.ref f5)))
    (l5 : K.lookup f5 = some ⟨oc5, od5, .func (PySem.W.fnOf "packed" "packed" (defArgs sPacked) (defBody sPacked) (defScope sPacked) .none kV5 dc5 pm5 an5 cd5 ct5), sl5⟩)
    (c5 : PySem.W.codeIn K cd5 "packed" = true)
    (k5 : PySem.W.keepIn K (.ref f5) = true)
    (a6 : PySem.W.nsIn K mainGlobals "unit" = some (some (.ref f6)))
    (l6 : K.lookup f6 = some ⟨oc6, od6, .func (PySem.W.fnOf "unit" "unit" (defArgs sUnit) (defBody sUnit) (defScope sUnit) .none kV6 dc6 pm6 an6 cd6 ct6), sl6⟩)
    (c6 : PySem.W.codeIn K cd6 "unit" = true)
    (k6 : PySem.W.keepIn K (.ref f6) = true)
    (a7 : PySem.W.nsIn K mainGlobals "opposite" = some (some (.ref f7)))
    (l7 : K.lookup f7 = some ⟨oc7, od7, .func (PySem.W.fnOf "opposite" "opposite" (defArgs sOpp) (defBody sOpp) (defScope sOpp) .none kV7 dc7 pm7 an7 cd7 ct7), sl7⟩)
    (c7 : PySem.W.codeIn K cd7 "opposite" = true)
    (k7 : PySem.W.keepIn K (.ref f7) = true)
    (a8 : PySem.W.nsIn K mainGlobals "above" = some (some (.ref f8)))
    (l8 : K.lookup f8 = some ⟨oc8, od8, .func (PySem.W.fnOf "above" "above" (defArgs sAbove) (defBody sAbove) (defScope sAbove) .none kV8 dc8 pm8 an8 cd8 ct8), sl8⟩)
    (c8 : PySem.W.codeIn K cd8 "above" = true)
    (k8 : PySem.W.keepIn K (.ref f8) = true)
    (a9 : PySem.W.nsIn K mainGlobals "covers" = some (some (.ref f9)))
    (l9 : K.lookup f9 = some ⟨oc9, od9, .func (PySem.W.fnOf "covers" "covers" (defArgs sCovers) (defBody sCovers) (defScope sCovers) .none kV9 dc9 pm9 an9 cd9 ct9), sl9⟩)
    (c9 : PySem.W.codeIn K cd9 "covers" = true)
    (k9 : PySem.W.keepIn K (.ref f9) = true)
    (a10 : PySem.W.nsIn K mainGlobals "is_nought" = some (some (.ref f10)))
    (l10 : K.lookup f10 = some ⟨oc10, od10, .func (PySem.W.fnOf "is_nought" "is_nought" (defArgs sIsNought) (defBody sIsNought) (defScope sIsNought) .none kV10 dc10 pm10 an10 cd10 ct10), sl10⟩)
    (c10 : PySem.W.codeIn K cd10 "is_nought" = true)
    (k10 : PySem.W.keepIn K (.ref f10) = true)
    (a11 : PySem.W.nsIn K mainGlobals "marks" = some (some (.ref f11)))
    (l11 : K.lookup f11 = some ⟨oc11, od11, .func (PySem.W.fnOf "marks" "marks" (defArgs sMarks) (defBody sMarks) (defScope sMarks) .none kV11 dc11 pm11 an11 cd11 ct11), sl11⟩)
    (c11 : PySem.W.codeIn K cd11 "marks" = true)
    (k11 : PySem.W.keepIn K (.ref f11) = true)
    (a12 : PySem.W.nsIn K mainGlobals "look_wish" = some (some (.ref f12)))
    (l12 : K.lookup f12 = some ⟨oc12, od12, .func (PySem.W.fnOf "look_wish" "look_wish" (defArgs sLookWish) (defBody sLookWish) (defScope sLookWish) .none kV12 dc12 pm12 an12 cd12 ct12), sl12⟩)
    (c12 : PySem.W.codeIn K cd12 "look_wish" = true)
    (k12 : PySem.W.keepIn K (.ref f12) = true)
    (a13 : PySem.W.nsIn K mainGlobals "numbers_of" = some (some (.ref f13)))
    (l13 : K.lookup f13 = some ⟨oc13, od13, .func (PySem.W.fnOf "numbers_of" "numbers_of" (defArgs sNumbers) (defBody sNumbers) (defScope sNumbers) .none kV13 dc13 pm13 an13 cd13 ct13), sl13⟩)
    (c13 : PySem.W.codeIn K cd13 "numbers_of" = true)
    (k13 : PySem.W.keepIn K (.ref f13) = true)
    (a14 : PySem.W.nsIn K mainGlobals "columns_of" = some (some (.ref f14)))
    (l14 : K.lookup f14 = some ⟨oc14, od14, .func (PySem.W.fnOf "columns_of" "columns_of" (defArgs sCols) (defBody sCols) (defScope sCols) .none kV14 dc14 pm14 an14 cd14 ct14), sl14⟩)
    (c14 : PySem.W.codeIn K cd14 "columns_of" = true)
    (k14 : PySem.W.keepIn K (.ref f14) = true)
    (a15 : PySem.W.nsIn K mainGlobals "costs_of" = some (some (.ref f15)))
    (l15 : K.lookup f15 = some ⟨oc15, od15, .func (PySem.W.fnOf "costs_of" "costs_of" (defArgs sCosts) (defBody sCosts) (defScope sCosts) .none kV15 dc15 pm15 an15 cd15 ct15), sl15⟩)
    (c15 : PySem.W.codeIn K cd15 "costs_of" = true)
    (k15 : PySem.W.keepIn K (.ref f15) = true)
    (a16 : PySem.W.nsIn K mainGlobals "worse_first" = some (some (.ref f16)))
    (l16 : K.lookup f16 = some ⟨oc16, od16, .func (PySem.W.fnOf "worse_first" "worse_first" (defArgs sWorse) (defBody sWorse) (defScope sWorse) .none kV16 dc16 pm16 an16 cd16 ct16), sl16⟩)
    (c16 : PySem.W.codeIn K cd16 "worse_first" = true)
    (k16 : PySem.W.keepIn K (.ref f16) = true)
    (a17 : PySem.W.nsIn K mainGlobals "asks_fit" = some (some (.ref f17)))
    (l17 : K.lookup f17 = some ⟨oc17, od17, .func (PySem.W.fnOf "asks_fit" "asks_fit" (defArgs sAsksFit) (defBody sAsksFit) (defScope sAsksFit) .none kV17 dc17 pm17 an17 cd17 ct17), sl17⟩)
    (c17 : PySem.W.codeIn K cd17 "asks_fit" = true)
    (k17 : PySem.W.keepIn K (.ref f17) = true)
    (a18 : PySem.W.nsIn K mainGlobals "first_fitting" = some (some (.ref f18)))
    (l18 : K.lookup f18 = some ⟨oc18, od18, .func (PySem.W.fnOf "first_fitting" "first_fitting" (defArgs sFitting) (defBody sFitting) (defScope sFitting) .none kV18 dc18 pm18 an18 cd18 ct18), sl18⟩)
    (c18 : PySem.W.codeIn K cd18 "first_fitting" = true)
    (k18 : PySem.W.keepIn K (.ref f18) = true)
    (a19 : PySem.W.nsIn K mainGlobals "settled" = some (some (.ref f19)))
    (l19 : K.lookup f19 = some ⟨oc19, od19, .func (PySem.W.fnOf "settled" "settled" (defArgs sSettled) (defBody sSettled) (defScope sSettled) .none kV19 dc19 pm19 an19 cd19 ct19), sl19⟩)
    (c19 : PySem.W.codeIn K cd19 "settled" = true)
    (k19 : PySem.W.keepIn K (.ref f19) = true)
    (a20 : PySem.W.nsIn K mainGlobals "seeds_of" = some (some (.ref f20)))
    (l20 : K.lookup f20 = some ⟨oc20, od20, .func (PySem.W.fnOf "seeds_of" "seeds_of" (defArgs sSeeds) (defBody sSeeds) (defScope sSeeds) .none kV20 dc20 pm20 an20 cd20 ct20), sl20⟩)
    (c20 : PySem.W.codeIn K cd20 "seeds_of" = true)
    (k20 : PySem.W.keepIn K (.ref f20) = true)
    (a21 : PySem.W.nsIn K mainGlobals "leaves_some" = some (some (.ref f21)))
    (l21 : K.lookup f21 = some ⟨oc21, od21, .func (PySem.W.fnOf "leaves_some" "leaves_some" (defArgs sLeaves) (defBody sLeaves) (defScope sLeaves) .none kV21 dc21 pm21 an21 cd21 ct21), sl21⟩)
    (c21 : PySem.W.codeIn K cd21 "leaves_some" = true)
    (k21 : PySem.W.keepIn K (.ref f21) = true)
    (a22 : PySem.W.nsIn K mainGlobals "is_spanned" = some (some (.ref f22)))
    (l22 : K.lookup f22 = some ⟨oc22, od22, .func (PySem.W.fnOf "is_spanned" "is_spanned" (defArgs sSpanned) (defBody sSpanned) (defScope sSpanned) .none kV22 dc22 pm22 an22 cd22 ct22), sl22⟩)
    (c22 : PySem.W.codeIn K cd22 "is_spanned" = true)
    (k22 : PySem.W.keepIn K (.ref f22) = true)
    (a23 : PySem.W.nsIn K mainGlobals "take_in" = some (some (.ref f23)))
    (l23 : K.lookup f23 = some ⟨oc23, od23, .func (PySem.W.fnOf "take_in" "take_in" (defArgs sTakeIn) (defBody sTakeIn) (defScope sTakeIn) .none kV23 dc23 pm23 an23 cd23 ct23), sl23⟩)
    (c23 : PySem.W.codeIn K cd23 "take_in" = true)
    (k23 : PySem.W.keepIn K (.ref f23) = true)
    (a24 : PySem.W.nsIn K mainGlobals "steps_within" = some (some (.ref f24)))
    (l24 : K.lookup f24 = some ⟨oc24, od24, .func (PySem.W.fnOf "steps_within" "steps_within" (defArgs sWithinS) (defBody sWithinS) (defScope sWithinS) .none kV24 dc24 pm24 an24 cd24 ct24), sl24⟩)
    (c24 : PySem.W.codeIn K cd24 "steps_within" = true)
    (k24 : PySem.W.keepIn K (.ref f24) = true)
    (a25 : PySem.W.nsIn K mainGlobals "as_load" = some (some (.ref f25)))
    (l25 : K.lookup f25 = some ⟨oc25, od25, .func (PySem.W.fnOf "as_load" "as_load" (defArgs sAsLoad) (defBody sAsLoad) (defScope sAsLoad) .none kV25 dc25 pm25 an25 cd25 ct25), sl25⟩)
    (c25 : PySem.W.codeIn K cd25 "as_load" = true)
    (k25 : PySem.W.keepIn K (.ref f25) = true)
    (a26 : PySem.W.nsIn K mainGlobals "row_text" = some (some (.ref f26)))
    (l26 : K.lookup f26 = some ⟨oc26, od26, .func (PySem.W.fnOf "row_text" "row_text" (defArgs sRowText) (defBody sRowText) (defScope sRowText) .none kV26 dc26 pm26 an26 cd26 ct26), sl26⟩)
    (c26 : PySem.W.codeIn K cd26 "row_text" = true)
    (k26 : PySem.W.keepIn K (.ref f26) = true)
    (a27 : PySem.W.nsIn K mainGlobals "_law_feed" = some (some (.ref f27)))
    (l27 : K.lookup f27 = some ⟨oc27, od27, .func (PySem.W.fnOf "_law_feed" "_law_feed" (defArgs sFeed) (defBody sFeed) (defScope sFeed) .none kV27 dc27 pm27 an27 cd27 ct27), sl27⟩)
    (c27 : PySem.W.codeIn K cd27 "_law_feed" = true)
    (k27 : PySem.W.keepIn K (.ref f27) = true)
    (a28 : PySem.W.nsIn K mainGlobals "_law_draw" = some (some (.ref f28)))
    (l28 : K.lookup f28 = some ⟨oc28, od28, .func (PySem.W.fnOf "_law_draw" "_law_draw" (defArgs sDraw) (defBody sDraw) (defScope sDraw) .none kV28 dc28 pm28 an28 cd28 ct28), sl28⟩)
    (c28 : PySem.W.codeIn K cd28 "_law_draw" = true)
    (k28 : PySem.W.keepIn K (.ref f28) = true)
    (a29 : PySem.W.nsIn K mainGlobals "_law_pick" = some (some (.ref f29)))
    (l29 : K.lookup f29 = some ⟨oc29, od29, .func (PySem.W.fnOf "_law_pick" "_law_pick" (defArgs sPick) (defBody sPick) (defScope sPick) .none kV29 dc29 pm29 an29 cd29 ct29), sl29⟩)
    (c29 : PySem.W.codeIn K cd29 "_law_pick" = true)
    (k29 : PySem.W.keepIn K (.ref f29) = true)
    (a30 : PySem.W.nsIn K mainGlobals "_law_same" = some (some (.ref f30)))
    (l30 : K.lookup f30 = some ⟨oc30, od30, .func (PySem.W.fnOf "_law_same" "_law_same" (defArgs sSame) (defBody sSame) (defScope sSame) .none kV30 dc30 pm30 an30 cd30 ct30), sl30⟩)
    (c30 : PySem.W.codeIn K cd30 "_law_same" = true)
    (k30 : PySem.W.keepIn K (.ref f30) = true)
    (a31 : PySem.W.nsIn K mainGlobals "_law_word" = some (some (.ref f31)))
    (l31 : K.lookup f31 = some ⟨oc31, od31, .func (PySem.W.fnOf "_law_word" "_law_word" (defArgs sWord) (defBody sWord) (defScope sWord) .none kV31 dc31 pm31 an31 cd31 ct31), sl31⟩)
    (c31 : PySem.W.codeIn K cd31 "_law_word" = true)
    (k31 : PySem.W.keepIn K (.ref f31) = true)
    (a32 : PySem.W.nsIn K mainGlobals "_law_great" = some (some (.ref f32)))
    (l32 : K.lookup f32 = some ⟨oc32, od32, .func (PySem.W.fnOf "_law_great" "_law_great" (defArgs sGreat) (defBody sGreat) (defScope sGreat) .none kV32 dc32 pm32 an32 cd32 ct32), sl32⟩)
    (c32 : PySem.W.codeIn K cd32 "_law_great" = true)
    (k32 : PySem.W.keepIn K (.ref f32) = true)
    (a33 : PySem.W.nsIn K mainGlobals "_law_hold" = some (some (.ref f33)))
    (l33 : K.lookup f33 = some ⟨oc33, od33, .func (PySem.W.fnOf "_law_hold" "_law_hold" (defArgs sHold) (defBody sHold) (defScope sHold) .none kV33 dc33 pm33 an33 cd33 ct33), sl33⟩)
    (c33 : PySem.W.codeIn K cd33 "_law_hold" = true)
    (k33 : PySem.W.keepIn K (.ref f33) = true)
    (a34 : PySem.W.nsIn K mainGlobals "_law_lot" = some (some (.ref f34)))
    (l34 : K.lookup f34 = some ⟨oc34, od34, .func (PySem.W.fnOf "_law_lot" "_law_lot" (defArgs sLot) (defBody sLot) (defScope sLot) .none kV34 dc34 pm34 an34 cd34 ct34), sl34⟩)
    (c34 : PySem.W.codeIn K cd34 "_law_lot" = true)
    (k34 : PySem.W.keepIn K (.ref f34) = true)
    (a35 : PySem.W.nsIn K mainGlobals "_law_small_lot" = some (some (.ref f35)))
    (l35 : K.lookup f35 = some ⟨oc35, od35, .func (PySem.W.fnOf "_law_small_lot" "_law_small_lot" (defArgs sSmall) (defBody sSmall) (defScope sSmall) .none kV35 dc35 pm35 an35 cd35 ct35), sl35⟩)
    (c35 : PySem.W.codeIn K cd35 "_law_small_lot" = true)
    (k35 : PySem.W.keepIn K (.ref f35) = true)
    (a36 : PySem.W.nsIn K mainGlobals "_law_wish" = some (some (.ref f36)))
    (l36 : K.lookup f36 = some ⟨oc36, od36, .func (PySem.W.fnOf "_law_wish" "_law_wish" (defArgs sWish) (defBody sWish) (defScope sWish) .none kV36 dc36 pm36 an36 cd36 ct36), sl36⟩)
    (c36 : PySem.W.codeIn K cd36 "_law_wish" = true)
    (k36 : PySem.W.keepIn K (.ref f36) = true)
    (a37 : PySem.W.nsIn K mainGlobals "_law_small_bill" = some (some (.ref f37)))
    (l37 : K.lookup f37 = some ⟨oc37, od37, .func (PySem.W.fnOf "_law_small_bill" "_law_small_bill" (defArgs sSmallBill) (defBody sSmallBill) (defScope sSmallBill) .none kV37 dc37 pm37 an37 cd37 ct37), sl37⟩)
    (c37 : PySem.W.codeIn K cd37 "_law_small_bill" = true)
    (k37 : PySem.W.keepIn K (.ref f37) = true)
    (a38 : PySem.W.nsIn K mainGlobals "_law_noughts" = some (some (.ref f38)))
    (l38 : K.lookup f38 = some ⟨oc38, od38, .func (PySem.W.fnOf "_law_noughts" "_law_noughts" (defArgs sNought) (defBody sNought) (defScope sNought) .none kV38 dc38 pm38 an38 cd38 ct38), sl38⟩)
    (c38 : PySem.W.codeIn K cd38 "_law_noughts" = true)
    (k38 : PySem.W.keepIn K (.ref f38) = true)
    (a39 : PySem.W.nsIn K mainGlobals "_law_row_text" = some (some (.ref f39)))
    (l39 : K.lookup f39 = some ⟨oc39, od39, .func (PySem.W.fnOf "_law_row_text" "_law_row_text" (defArgs sRowT2) (defBody sRowT2) (defScope sRowT2) .none kV39 dc39 pm39 an39 cd39 ct39), sl39⟩)
    (c39 : PySem.W.codeIn K cd39 "_law_row_text" = true)
    (k39 : PySem.W.keepIn K (.ref f39) = true)
    (a40 : PySem.W.nsIn K mainGlobals "_law_due_seen" = some (some (.ref f40)))
    (l40 : K.lookup f40 = some ⟨oc40, od40, .func (PySem.W.fnOf "_law_due_seen" "_law_due_seen" (defArgs sDueS) (defBody sDueS) (defScope sDueS) .none kV40 dc40 pm40 an40 cd40 ct40), sl40⟩)
    (c40 : PySem.W.codeIn K cd40 "_law_due_seen" = true)
    (k40 : PySem.W.keepIn K (.ref f40) = true)
    (a41 : PySem.W.nsIn K mainGlobals "_law_seen_of" = some (some (.ref f41)))
    (l41 : K.lookup f41 = some ⟨oc41, od41, .func (PySem.W.fnOf "_law_seen_of" "_law_seen_of" (defArgs sSeen) (defBody sSeen) (defScope sSeen) .none kV41 dc41 pm41 an41 cd41 ct41), sl41⟩)
    (c41 : PySem.W.codeIn K cd41 "_law_seen_of" = true)
    (k41 : PySem.W.keepIn K (.ref f41) = true)
    (aLe : PySem.W.nsIn K mainGlobals "less" = some (some (.ref fLe)))
    (lLe : K.lookup fLe = some ⟨ocLe, odLe, .func (PySem.W.fnOf "less" "less" (defArgs sLess) (defBody sLess) (defScope sLess) (.ref TLe) kVLe dcLe pmLe anLe cdLe ctLe), slLe⟩)
    (cLe : PySem.W.codeIn K cdLe "less" = true)
    (kLe : PySem.W.keepIn K (.ref fLe) = true)
    (lTLe : K.lookup TLe = some ⟨ocTLe, odTLe, .seq #[.int 1 tkLe] nTLe, slTLe⟩)
    (aBL : PySem.W.nsIn K mainGlobals "best_load" = some (some (.ref fBL)))
    (lBL : K.lookup fBL = some ⟨ocBL, odBL, .func (PySem.W.fnOf "best_load" "best_load" (defArgs sBestLoad) (defBody sBestLoad) (defScope sBestLoad) .none (.ref DBL) dcBL pmBL anBL cdBL ctBL), slBL⟩)
    (cBL : PySem.W.codeIn K cdBL "best_load" = true)
    (kBL : PySem.W.keepIn K (.ref fBL) = true)
    (nDBL : PySem.W.nsIn K DBL "wish" = some (some (.ref EBL)))
    (lTBL : K.lookup EBL = some ⟨.type "tuple", ddTBL, .seq #[] nTBL, slTBL⟩)
    (aL : PySem.W.nsIn K mainGlobals "law" = some (some (.ref fL)))
    (lL : K.lookup fL = some ⟨ocL, odL, .func (PySem.W.fnOf "law" "law" (defArgs sLaw) (defBody sLaw) (defScope sLaw) .none kVL dcL pmL anL (.ref cL) ctL), slL⟩)
    (cdL : PySem.W.codeIn K (.ref cL) "law" = true)
    (nP : K.lookup Pt = none)
    (hd : PySem.W.codeHdIn K cL Pt = true)
    (aC1 : PySem.W.nsIn K mainGlobals "BadLot" = some (some (.ref C1)))
    (xL1 : K.lookup C1 = some (excClassObj nm1 q1 C1 N1 bs1 [.ref CE1, .type "ValueError", .type "Exception", .type "BaseException", .type "object"] true sn1 sub1 ab1 col1 dd1 m01 m11 m21 m31 m51 "ValueError.__new__"))
    (sa1 : PySem.W.findIn K (.ref C1) "__setattr__" = some (some (.builtin "object.__setattr__")))
    (ga1 : PySem.W.findIn K (.ref C1) "__getattribute__" = some (some (.builtin "BaseException.__getattribute__")))
    (gg1 : PySem.W.findIn K (.ref C1) "__getattr__" = some none)
    (nW1 : PySem.W.findIn K (.ref C1) "word" = some none)
    (nF1 : PySem.W.findIn K (.ref C1) "kind" = some none)
    (aI1 : PySem.W.findIn K (.ref C1) "__init__" = some (some (.ref fI1)))
    (tI1 : PySem.W.typeIn K (.ref fI1) = some (.type "function"))
    (lI1 : K.lookup fI1 = some ⟨ocI1, odI1, .func (PySem.W.fnOf "__init__" "BadLot.__init__" (defArgs sBadInit) (defBody sBadInit) (defScope sBadInit) .none kVI1 dcI1 pmI1 anI1 cdI1 ctI1), slI1⟩)
    (cI1 : PySem.W.codeIn K cdI1 "BadLot.__init__" = true)
    (kI1 : PySem.W.keepIn K (.ref fI1) = true)
    (kC1 : PySem.W.keepIn K (.ref C1) = true)
    (eC1 : PySem.W.subIn K (.ref C1) (.type "BaseException") = some true)
    (tC1 : PySem.W.typeIn K (.ref C1) = some (.type "type"))
    (hC1 : PySem.W.hasDictIn K C1 = true)
    (iC1 : PySem.W.isClsIn K C1 = true)
    (aC3 : PySem.W.nsIn K mainGlobals "BadBill" = some (some (.ref C3)))
    (xL3 : K.lookup C3 = some (excClassObj nm3 q3 C3 N3 bs3 [.ref CE3, .type "ValueError", .type "Exception", .type "BaseException", .type "object"] true sn3 sub3 ab3 col3 dd3 m03 m13 m23 m33 m53 "ValueError.__new__"))
    (sa3 : PySem.W.findIn K (.ref C3) "__setattr__" = some (some (.builtin "object.__setattr__")))
    (ga3 : PySem.W.findIn K (.ref C3) "__getattribute__" = some (some (.builtin "BaseException.__getattribute__")))
    (gg3 : PySem.W.findIn K (.ref C3) "__getattr__" = some none)
    (nW3 : PySem.W.findIn K (.ref C3) "word" = some none)
    (nF3 : PySem.W.findIn K (.ref C3) "good" = some none)
    (aI3 : PySem.W.findIn K (.ref C3) "__init__" = some (some (.ref fI3)))
    (tI3 : PySem.W.typeIn K (.ref fI3) = some (.type "function"))
    (lI3 : K.lookup fI3 = some ⟨ocI3, odI3, .func (PySem.W.fnOf "__init__" "BadBill.__init__" (defArgs sBillInit) (defBody sBillInit) (defScope sBillInit) .none kVI3 dcI3 pmI3 anI3 cdI3 ctI3), slI3⟩)
    (cI3 : PySem.W.codeIn K cdI3 "BadBill.__init__" = true)
    (kI3 : PySem.W.keepIn K (.ref fI3) = true)
    (kC3 : PySem.W.keepIn K (.ref C3) = true)
    (eC3 : PySem.W.subIn K (.ref C3) (.type "BaseException") = some true)
    (tC3 : PySem.W.typeIn K (.ref C3) = some (.type "type"))
    (hC3 : PySem.W.hasDictIn K C3 = true)
    (iC3 : PySem.W.isClsIn K C3 = true)
    (aC2 : PySem.W.nsIn K mainGlobals "BadWish" = some (some (.ref C2)))
    (xL2 : K.lookup C2 = some (excClassObj nm2 q2 C2 N2 bs2 [.ref CE2, .type "ValueError", .type "Exception", .type "BaseException", .type "object"] true sn2 sub2 ab2 col2 dd2 m02 m12 m22 m32 m52 "ValueError.__new__"))
    (sa2 : PySem.W.findIn K (.ref C2) "__setattr__" = some (some (.builtin "object.__setattr__")))
    (ga2 : PySem.W.findIn K (.ref C2) "__getattribute__" = some (some (.builtin "BaseException.__getattribute__")))
    (gg2 : PySem.W.findIn K (.ref C2) "__getattr__" = some none)
    (nW2 : PySem.W.findIn K (.ref C2) "word" = some none)
    (aI2 : PySem.W.findIn K (.ref C2) "__init__" = some (some (.ref fI2)))
    (tI2 : PySem.W.typeIn K (.ref fI2) = some (.type "function"))
    (lI2 : K.lookup fI2 = some ⟨ocI2, odI2, .func (PySem.W.fnOf "__init__" "BadWish.__init__" (defArgs sWishInit) (defBody sWishInit) (defScope sWishInit) .none kVI2 dcI2 pmI2 anI2 cdI2 ctI2), slI2⟩)
    (cI2 : PySem.W.codeIn K cdI2 "BadWish.__init__" = true)
    (kI2 : PySem.W.keepIn K (.ref fI2) = true)
    (kC2 : PySem.W.keepIn K (.ref C2) = true)
    (eC2 : PySem.W.subIn K (.ref C2) (.type "BaseException") = some true)
    (tC2 : PySem.W.typeIn K (.ref C2) = some (.type "type"))
    (hC2 : PySem.W.hasDictIn K C2 = true)
    (iC2 : PySem.W.isClsIn K C2 = true)
    (aCS : PySem.W.nsIn K mainGlobals "Step" = some (some (.ref CS)))
    (aSI : PySem.W.findIn K (.ref CS) "__init__" = some (some (.ref fSI)))
    (iSI : PySem.W.isFn K (.ref fSI) = true)
    (lSI : K.lookup fSI = some ⟨ocSI, odSI, .func (PySem.W.fnOf "__init__" "Step.__init__" (defArgs sStepInit) (defBody sStepInit) (defScope sStepInit) .none kVSI dcSI pmSI anSI cdSI ctSI), slSI⟩)
    (cSI : PySem.W.codeIn K cdSI "Step.__init__" = true)
    (kSI : PySem.W.keepIn K (.ref fSI) = true)
    (pgS : PySem.W.plainGet K CS Str.empty = true)
    (hdS : PySem.W.hasDictIn K CS = true)
    (poS : PySem.W.plainOver K CS = true)
    (saS : PySem.W.findIn K (.ref CS) "__setattr__" = some (some (.builtin "object.__setattr__")))
    (mkS : PySem.W.makesIn K CS = true)
    (kcS : PySem.W.keepIn K (.ref CS) = true)
    (nS0 : PySem.W.findIn K (.ref CS) "change" = some none)
    (nS1 : PySem.W.findIn K (.ref CS) "asks" = some none)
    (nS2 : PySem.W.findIn K (.ref CS) "takes" = some none)
    (nS3 : PySem.W.findIn K (.ref CS) "gives" = some none)
    (v6 : PySem.W.nsIn K mainGlobals "MOST_HOLD" = some (some (.int 6 t6)))
    (v5 : PySem.W.nsIn K mainGlobals "MOST_KINDS" = some (some (.int 5 t5)))
    (v3 : PySem.W.nsIn K mainGlobals "MOST_GOODS" = some (some (.int 3 t3)))
    (v30 : PySem.W.nsIn K mainGlobals "GREAT" = some (some (.int G30 t30)))
    (v99 : PySem.W.nsIn K mainGlobals "MOST_WISH" = some (some (.int 99 t99)))
    (aCP : PySem.W.nsIn K mainGlobals "Picker" = some (some (.ref CP)))
    (pgP : PySem.W.plainGet K CP Str.empty = true)
    (hdP : PySem.W.hasDictIn K CP = true)
    (poP : PySem.W.plainOver K CP = true)
    (saP : PySem.W.findIn K (.ref CP) "__setattr__" = some (some (.builtin "object.__setattr__")))
    (mkP : PySem.W.makesIn K CP = true)
    (kcP : PySem.W.keepIn K (.ref CP) = true)
    (nP0 : PySem.W.findIn K (.ref CP) "own_lot" = some none)
    (nP1 : PySem.W.findIn K (.ref CP) "own_wish" = some none)
    (nP2 : PySem.W.findIn K (.ref CP) "stand" = some none)
    (nP3 : PySem.W.findIn K (.ref CP) "past" = some none)
    (nP4 : PySem.W.findIn K (.ref CP) "future" = some none)
    (nP5 : PySem.W.findIn K (.ref CP) "own_betterings" = some none)
    (aPI : PySem.W.findIn K (.ref CP) "__init__" = some (some (.ref fPI)))
    (iPI : PySem.W.isFn K (.ref fPI) = true)
    (lPI : K.lookup fPI = some ⟨ocPI, odPI, .func (PySem.W.fnOf "__init__" "Picker.__init__" (defArgs (sP 0)) (defBody (sP 0)) (defScope (sP 0)) .none (.ref DPI) dcPI pmPI anPI cdPI ctPI), slPI⟩)
    (cPI : PySem.W.codeIn K cdPI "Picker.__init__" = true)
    (kPI : PySem.W.keepIn K (.ref fPI) = true)
    (nDPI : PySem.W.nsIn K DPI "wish" = some (some (.ref EPI)))
    (lTPI : K.lookup EPI = some ⟨.type "tuple", ddTPI, .seq #[] nTPI, slTPI⟩)
    (aPLt : PySem.W.findIn K (.ref CP) "lot" = some (some (.ref fPLt)))
    (iPLt : PySem.W.isFn K (.ref fPLt) = true)
    (lPLt : K.lookup fPLt = some ⟨ocPLt, odPLt, .func (PySem.W.fnOf "lot" "Picker.lot" (defArgs (sP 1)) (defBody (sP 1)) (defScope (sP 1)) .none kVPLt dcPLt pmPLt anPLt cdPLt ctPLt), slPLt⟩)
    (cPLt : PySem.W.codeIn K cdPLt "Picker.lot" = true)
    (kPLt : PySem.W.keepIn K (.ref fPLt) = true)
    (aPBl : PySem.W.findIn K (.ref CP) "bill" = some (some (.ref fPBl)))
    (iPBl : PySem.W.isFn K (.ref fPBl) = true)
    (lPBl : K.lookup fPBl = some ⟨ocPBl, odPBl, .func (PySem.W.fnOf "bill" "Picker.bill" (defArgs (sP 2)) (defBody (sP 2)) (defScope (sP 2)) .none kVPBl dcPBl pmPBl anPBl cdPBl ctPBl), slPBl⟩)
    (cPBl : PySem.W.codeIn K cdPBl "Picker.bill" = true)
    (kPBl : PySem.W.keepIn K (.ref fPBl) = true)
    (aPWs : PySem.W.findIn K (.ref CP) "wish" = some (some (.ref fPWs)))
    (iPWs : PySem.W.isFn K (.ref fPWs) = true)
    (lPWs : K.lookup fPWs = some ⟨ocPWs, odPWs, .func (PySem.W.fnOf "wish" "Picker.wish" (defArgs (sP 3)) (defBody (sP 3)) (defScope (sP 3)) .none kVPWs dcPWs pmPWs anPWs cdPWs ctPWs), slPWs⟩)
    (cPWs : PySem.W.codeIn K cdPWs "Picker.wish" = true)
    (kPWs : PySem.W.keepIn K (.ref fPWs) = true)
    (aPCn : PySem.W.findIn K (.ref CP) "counts" = some (some (.ref fPCn)))
    (iPCn : PySem.W.isFn K (.ref fPCn) = true)
    (lPCn : K.lookup fPCn = some ⟨ocPCn, odPCn, .func (PySem.W.fnOf "counts" "Picker.counts" (defArgs (sP 4)) (defBody (sP 4)) (defScope (sP 4)) .none kVPCn dcPCn pmPCn anPCn cdPCn ctPCn), slPCn⟩)
    (cPCn : PySem.W.codeIn K cdPCn "Picker.counts" = true)
    (kPCn : PySem.W.keepIn K (.ref fPCn) = true)
    (aPLo : PySem.W.findIn K (.ref CP) "loose" = some (some (.ref fPLo)))
    (iPLo : PySem.W.isFn K (.ref fPLo) = true)
    (lPLo : K.lookup fPLo = some ⟨ocPLo, odPLo, .func (PySem.W.fnOf "loose" "Picker.loose" (defArgs (sP 5)) (defBody (sP 5)) (defScope (sP 5)) .none kVPLo dcPLo pmPLo anPLo cdPLo ctPLo), slPLo⟩)
    (cPLo : PySem.W.codeIn K cdPLo "Picker.loose" = true)
    (kPLo : PySem.W.keepIn K (.ref fPLo) = true)
    (aPBs : PySem.W.findIn K (.ref CP) "best" = some (some (.ref fPBs)))
    (iPBs : PySem.W.isFn K (.ref fPBs) = true)
    (lPBs : K.lookup fPBs = some ⟨ocPBs, odPBs, .func (PySem.W.fnOf "best" "Picker.best" (defArgs (sP 13)) (defBody (sP 13)) (defScope (sP 13)) .none kVPBs dcPBs pmPBs anPBs cdPBs ctPBs), slPBs⟩)
    (cPBs : PySem.W.codeIn K cdPBs "Picker.best" = true)
    (kPBs : PySem.W.keepIn K (.ref fPBs) = true)
    (aPIB : PySem.W.findIn K (.ref CP) "is_best" = some (some (.ref fPIB)))
    (iPIB : PySem.W.isFn K (.ref fPIB) = true)
    (lPIB : K.lookup fPIB = some ⟨ocPIB, odPIB, .func (PySem.W.fnOf "is_best" "Picker.is_best" (defArgs (sP 19)) (defBody (sP 19)) (defScope (sP 19)) .none kVPIB dcPIB pmPIB anPIB cdPIB ctPIB), slPIB⟩)
    (cPIB : PySem.W.codeIn K cdPIB "Picker.is_best" = true)
    (kPIB : PySem.W.keepIn K (.ref fPIB) = true)
    (aPLf : PySem.W.findIn K (.ref CP) "left" = some (some (.ref fPLf)))
    (iPLf : PySem.W.isFn K (.ref fPLf) = true)
    (lPLf : K.lookup fPLf = some ⟨ocPLf, odPLf, .func (PySem.W.fnOf "left" "Picker.left" (defArgs (sP 20)) (defBody (sP 20)) (defScope (sP 20)) .none kVPLf dcPLf pmPLf anPLf cdPLf ctPLf), slPLf⟩)
    (cPLf : PySem.W.codeIn K cdPLf "Picker.left" = true)
    (kPLf : PySem.W.keepIn K (.ref fPLf) = true)
    (aPHa : PySem.W.findIn K (.ref CP) "hampers" = some (some (.ref fPHa)))
    (iPHa : PySem.W.isFn K (.ref fPHa) = true)
    (lPHa : K.lookup fPHa = some ⟨ocPHa, odPHa, .func (PySem.W.fnOf "hampers" "Picker.hampers" (defArgs (sP 22)) (defBody (sP 22)) (defScope (sP 22)) .none kVPHa dcPHa pmPHa anPHa cdPHa ctPHa), slPHa⟩)
    (cPHa : PySem.W.codeIn K cdPHa "Picker.hampers" = true)
    (kPHa : PySem.W.keepIn K (.ref fPHa) = true)
    (aPLn : PySem.W.findIn K (.ref CP) "__len__" = some (some (.ref fPLn)))
    (iPLn : PySem.W.isFn K (.ref fPLn) = true)
    (lPLn : K.lookup fPLn = some ⟨ocPLn, odPLn, .func (PySem.W.fnOf "__len__" "Picker.__len__" (defArgs (sP 23)) (defBody (sP 23)) (defScope (sP 23)) .none kVPLn dcPLn pmPLn anPLn cdPLn ctPLn), slPLn⟩)
    (cPLn : PySem.W.codeIn K cdPLn "Picker.__len__" = true)
    (kPLn : PySem.W.keepIn K (.ref fPLn) = true)
    (aPEq : PySem.W.findIn K (.ref CP) "__eq__" = some (some (.ref fPEq)))
    (iPEq : PySem.W.isFn K (.ref fPEq) = true)
    (lPEq : K.lookup fPEq = some ⟨ocPEq, odPEq, .func (PySem.W.fnOf "__eq__" "Picker.__eq__" (defArgs (sP 24)) (defBody (sP 24)) (defScope (sP 24)) .none kVPEq dcPEq pmPEq anPEq cdPEq ctPEq), slPEq⟩)
    (cPEq : PySem.W.codeIn K cdPEq "Picker.__eq__" = true)
    (kPEq : PySem.W.keepIn K (.ref fPEq) = true)
    (aPSr : PySem.W.findIn K (.ref CP) "__str__" = some (some (.ref fPSr)))
    (iPSr : PySem.W.isFn K (.ref fPSr) = true)
    (lPSr : K.lookup fPSr = some ⟨ocPSr, odPSr, .func (PySem.W.fnOf "__str__" "Picker.__str__" (defArgs (sP 25)) (defBody (sP 25)) (defScope (sP 25)) .none kVPSr dcPSr pmPSr anPSr cdPSr ctPSr), slPSr⟩)
    (cPSr : PySem.W.codeIn K cdPSr "Picker.__str__" = true)
    (kPSr : PySem.W.keepIn K (.ref fPSr) = true)
    (aPRp : PySem.W.findIn K (.ref CP) "__repr__" = some (some (.ref fPRp)))
    (iPRp : PySem.W.isFn K (.ref fPRp) = true)
    (lPRp : K.lookup fPRp = some ⟨ocPRp, odPRp, .func (PySem.W.fnOf "__repr__" "Picker.__repr__" (defArgs (sP 26)) (defBody (sP 26)) (defScope (sP 26)) .none kVPRp dcPRp pmPRp anPRp cdPRp ctPRp), slPRp⟩)
    (cPRp : PySem.W.codeIn K cdPRp "Picker.__repr__" = true)
    (kPRp : PySem.W.keepIn K (.ref fPRp) = true)
    (qha : PySem.W.findIn K (.ref CP) "__class__" = some (some (.builtin "object.__class__")))
    (qhn : PySem.W.specialIn K (.builtin "object.__class__") "__get__" = some (some (.builtin "getset_descriptor.__get__")))
    (qtk : PySem.W.takesIn K (.builtin "object.__class__") = some true)
    (qhm : PySem.W.mroIn K CP (.type "object") = some true)
    (qne : PySem.W.findIn K (.ref CP) "__ne__" = some (some (.builtin "object.__ne__")))
    (qic : PySem.W.isClsIn K CP = true)
    (qtc : PySem.W.typeIn K (.ref CP) = some (.type "type"))
    (aE1 : PySem.W.nsIn K mainGlobals "LotError" = some (some (.ref E1)))
    (aE2 : PySem.W.nsIn K mainGlobals "Missing" = some (some (.ref E2)))
    (aE3 : PySem.W.nsIn K mainGlobals "NothingLeft" = some (some (.ref E3)))
    (eE1 : PySem.W.subIn K (.ref E1) (.type "BaseException") = some true)
    (iE1 : PySem.W.isClsIn K E1 = true)
    (tE1 : PySem.W.typeIn K (.ref E1) = some (.type "type"))
    (s1E : PySem.W.subIn K (.ref C1) (.ref E1) = some true)
    (s2E : PySem.W.subIn K (.ref C2) (.ref E1) = some true)
    (s3E : PySem.W.subIn K (.ref C3) (.ref E1) = some true)
    (z_len : PySem.W.nsIn K mainGlobals "len" = some none)
    (z_list : PySem.W.nsIn K mainGlobals "list" = some none)
    (z_tuple : PySem.W.nsIn K mainGlobals "tuple" = some none)
    (z_dict : PySem.W.nsIn K mainGlobals "dict" = some none)
    (z_str : PySem.W.nsIn K mainGlobals "str" = some none)
    (z_int : PySem.W.nsIn K mainGlobals "int" = some none)
    (z_bool : PySem.W.nsIn K mainGlobals "bool" = some none)
    (z_isinstance : PySem.W.nsIn K mainGlobals "isinstance" = some none)
    (z_all : PySem.W.nsIn K mainGlobals "all" = some none)
    (z_range : PySem.W.nsIn K mainGlobals "range" = some none)
    (z_sum : PySem.W.nsIn K mainGlobals "sum" = some none)
    (z_min : PySem.W.nsIn K mainGlobals "min" = some none)
    (z_max : PySem.W.nsIn K mainGlobals "max" = some none)
    (z_enumerate : PySem.W.nsIn K mainGlobals "enumerate" = some none)
    (z_zip : PySem.W.nsIn K mainGlobals "zip" = some none)
    (z_any : PySem.W.nsIn K mainGlobals "any" = some none)
    (z_sorted : PySem.W.nsIn K mainGlobals "sorted" = some none)
    (z_reversed : PySem.W.nsIn K mainGlobals "reversed" = some none)
    (z_repr : PySem.W.nsIn K mainGlobals "repr" = some none)
    : LawAtS l w K CX0 12 63 "_law_script" mg fa h := by
  have e := hfa.symm.trans (PySem.W.mg_of X G aL)
  cases e
  have F0 := fun_mk (st := sIsHold) l0 c0 k0
  have b0 := F0.binds (ps := ["hold", "goods"]) fun _ _ _ _ _ _ us hl => match us, hl with | [_, _], _ => rfl
  have g0 := PySem.W.mg_of X G a0
  have F1 := fun_mk (st := sLook) l1 c1 k1
  have b1 := F1.binds (ps := ["lot"]) fun _ _ _ _ _ _ us hl => match us, hl with | [_], _ => rfl
  have g1 := PySem.W.mg_of X G a1
  have F2 := fun_mk (st := sGoods) l2 c2 k2
  have b2 := F2.binds (ps := ["lot"]) fun _ _ _ _ _ _ us hl => match us, hl with | [_], _ => rfl
  have g2 := PySem.W.mg_of X G a2
  have F3 := fun_mk (st := sFirst) l3 c3 k3
  have b3 := F3.binds (ps := ["row", "many"]) fun _ _ _ _ _ _ us hl => match us, hl with | [_, _], _ => rfl
  have g3 := PySem.W.mg_of X G a3
  have F4 := fun_mk (st := sLookBill) l4 c4 k4
  have b4 := F4.binds (ps := ["lot", "bill"]) fun _ _ _ _ _ _ us hl => match us, hl with | [_, _], _ => rfl
  have g4 := PySem.W.mg_of X G a4
  have F5 := fun_mk (st := sPacked) l5 c5 k5
  have b5 := F5.binds (ps := ["lot", "counts", "good"]) fun _ _ _ _ _ _ us hl => match us, hl with | [_, _, _], _ => rfl
  have g5 := PySem.W.mg_of X G a5
  have F6 := fun_mk (st := sUnit) l6 c6 k6
  have b6 := F6.binds (ps := ["place", "many"]) fun _ _ _ _ _ _ us hl => match us, hl with | [_, _], _ => rfl
  have g6 := PySem.W.mg_of X G a6
  have F7 := fun_mk (st := sOpp) l7 c7 k7
  have b7 := F7.binds (ps := ["row"]) fun _ _ _ _ _ _ us hl => match us, hl with | [_], _ => rfl
  have g7 := PySem.W.mg_of X G a7
  have F8 := fun_mk (st := sAbove) l8 c8 k8
  have b8 := F8.binds (ps := ["row"]) fun _ _ _ _ _ _ us hl => match us, hl with | [_], _ => rfl
  have g8 := PySem.W.mg_of X G a8
  have F9 := fun_mk (st := sCovers) l9 c9 k9
  have b9 := F9.binds (ps := ["row", "other"]) fun _ _ _ _ _ _ us hl => match us, hl with | [_, _], _ => rfl
  have g9 := PySem.W.mg_of X G a9
  have F10 := fun_mk (st := sIsNought) l10 c10 k10
  have b10 := F10.binds (ps := ["row"]) fun _ _ _ _ _ _ us hl => match us, hl with | [_], _ => rfl
  have g10 := PySem.W.mg_of X G a10
  have F11 := fun_mk (st := sMarks) l11 c11 k11
  have b11 := F11.binds (ps := ["row"]) fun _ _ _ _ _ _ us hl => match us, hl with | [_], _ => rfl
  have g11 := PySem.W.mg_of X G a11
  have F12 := fun_mk (st := sLookWish) l12 c12 k12
  have b12 := F12.binds (ps := ["lot", "wish"]) fun _ _ _ _ _ _ us hl => match us, hl with | [_, _], _ => rfl
  have g12 := PySem.W.mg_of X G a12
  have F13 := fun_mk (st := sNumbers) l13 c13 k13
  have b13 := F13.binds (ps := ["lot", "wish"]) fun _ _ _ _ _ _ us hl => match us, hl with | [_, _], _ => rfl
  have g13 := PySem.W.mg_of X G a13
  have F14 := fun_mk (st := sCols) l14 c14 k14
  have b14 := F14.binds (ps := ["lot"]) fun _ _ _ _ _ _ us hl => match us, hl with | [_], _ => rfl
  have g14 := PySem.W.mg_of X G a14
  have F15 := fun_mk (st := sCosts) l15 c15 k15
  have b15 := F15.binds (ps := ["lot", "wish"]) fun _ _ _ _ _ _ us hl => match us, hl with | [_, _], _ => rfl
  have g15 := PySem.W.mg_of X G a15
  have F16 := fun_mk (st := sWorse) l16 c16 k16
  have b16 := F16.binds (ps := ["change", "costs"]) fun _ _ _ _ _ _ us hl => match us, hl with | [_, _], _ => rfl
  have g16 := PySem.W.mg_of X G a16
  have F17 := fun_mk (st := sAsksFit) l17 c17 k17
  have b17 := F17.binds (ps := ["row", "asks"]) fun _ _ _ _ _ _ us hl => match us, hl with | [_, _], _ => rfl
  have g17 := PySem.W.mg_of X G a17
  have F18 := fun_mk (st := sFitting) l18 c18 k18
  have b18 := F18.binds (ps := ["row", "steps"]) fun _ _ _ _ _ _ us hl => match us, hl with | [_, _], _ => rfl
  have g18 := PySem.W.mg_of X G a18
  have F19 := fun_mk (st := sSettled) l19 c19 k19
  have b19 := F19.binds (ps := ["load", "steps"]) fun _ _ _ _ _ _ us hl => match us, hl with | [_, _], _ => rfl
  have g19 := PySem.W.mg_of X G a19
  have F20 := fun_mk (st := sSeeds) l20 c20 k20
  have b20 := F20.binds (ps := ["lot", "bound"]) fun _ _ _ _ _ _ us hl => match us, hl with | [_, _], _ => rfl
  have g20 := PySem.W.mg_of X G a20
  have F21 := fun_mk (st := sLeaves) l21 c21 k21
  have b21 := F21.binds (ps := ["least", "one", "other"]) fun _ _ _ _ _ _ us hl => match us, hl with | [_, _, _], _ => rfl
  have g21 := PySem.W.mg_of X G a21
  have F22 := fun_mk (st := sSpanned) l22 c22 k22
  have b22 := F22.binds (ps := ["least", "one", "other", "steps"]) fun _ _ _ _ _ _ us hl => match us, hl with | [_, _, _, _], _ => rfl
  have g22 := PySem.W.mg_of X G a22
  have F23 := fun_mk (st := sTakeIn) l23 c23 k23
  have b23 := F23.binds (ps := ["step", "steps", "waiting", "columns", "bound"]) fun _ _ _ _ _ _ us hl => match us, hl with | [_, _, _, _, _], _ => rfl
  have g23 := PySem.W.mg_of X G a23
  have F24 := fun_mk (st := sWithinS) l24 c24 k24
  have b24 := F24.binds (ps := ["lot", "wish", "bound"]) fun _ _ _ _ _ _ us hl => match us, hl with | [_, _, _], _ => rfl
  have g24 := PySem.W.mg_of X G a24
  have F25 := fun_mk (st := sAsLoad) l25 c25 k25
  have b25 := F25.binds (ps := ["row", "kinds"]) fun _ _ _ _ _ _ us hl => match us, hl with | [_, _], _ => rfl
  have g25 := PySem.W.mg_of X G a25
  have F26 := fun_mk (st := sRowText) l26 c26 k26
  have b26 := F26.binds (ps := ["row"]) fun _ _ _ _ _ _ us hl => match us, hl with | [_], _ => rfl
  have g26 := PySem.W.mg_of X G a26
  have F27 := fun_mk (st := sFeed) l27 c27 k27
  have b27 := F27.binds (ps := ["_law_script"]) fun _ _ _ _ _ _ us hl => match us, hl with | [_], _ => rfl
  have g27 := PySem.W.mg_of X G a27
  have F28 := fun_mk (st := sDraw) l28 c28 k28
  have b28 := F28.binds (ps := ["_law_feed_here", "_law_many"]) fun _ _ _ _ _ _ us hl => match us, hl with | [_, _], _ => rfl
  have g28 := PySem.W.mg_of X G a28
  have F29 := fun_mk (st := sPick) l29 c29 k29
  have b29 := F29.binds (ps := ["_law_feed_here", "_law_row"]) fun _ _ _ _ _ _ us hl => match us, hl with | [_, _], _ => rfl
  have g29 := PySem.W.mg_of X G a29
  have F30 := fun_mk (st := sSame) l30 c30 k30
  have b30 := F30.binds (ps := ["_law_found", "_law_due"]) fun _ _ _ _ _ _ us hl => match us, hl with | [_, _], _ => rfl
  have g30 := PySem.W.mg_of X G a30
  have F31 := fun_mk (st := sWord) l31 c31 k31
  have b31 := F31.binds (ps := ["_law_ask"]) fun _ _ _ _ _ _ us hl => match us, hl with | [_], _ => rfl
  have g31 := PySem.W.mg_of X G a31
  have F32 := fun_mk (st := sGreat) l32 c32 k32
  have b32 := F32.binds (ps := ["_law_feed_here"]) fun _ _ _ _ _ _ us hl => match us, hl with | [_], _ => rfl
  have g32 := PySem.W.mg_of X G a32
  have F33 := fun_mk (st := sHold) l33 c33 k33
  have b33 := F33.binds (ps := ["_law_feed_here", "_law_goods", "_law_most"]) fun _ _ _ _ _ _ us hl => match us, hl with | [_, _, _], _ => rfl
  have g33 := PySem.W.mg_of X G a33
  have F34 := fun_mk (st := sLot) l34 c34 k34
  have b34 := F34.binds (ps := ["_law_feed_here", "_law_goods", "_law_kinds", "_law_most"]) fun _ _ _ _ _ _ us hl => match us, hl with | [_, _, _, _], _ => rfl
  have g34 := PySem.W.mg_of X G a34
  have F35 := fun_mk (st := sSmall) l35 c35 k35
  have b35 := F35.binds (ps := ["_law_feed_here"]) fun _ _ _ _ _ _ us hl => match us, hl with | [_], _ => rfl
  have g35 := PySem.W.mg_of X G a35
  have F36 := fun_mk (st := sWish) l36 c36 k36
  have b36 := F36.binds (ps := ["_law_feed_here", "_law_mlot"]) fun _ _ _ _ _ _ us hl => match us, hl with | [_, _], _ => rfl
  have g36 := PySem.W.mg_of X G a36
  have F37 := fun_mk (st := sSmallBill) l37 c37 k37
  have b37 := F37.binds (ps := ["_law_feed_here", "_law_mlot"]) fun _ _ _ _ _ _ us hl => match us, hl with | [_, _], _ => rfl
  have g37 := PySem.W.mg_of X G a37
  have F38 := fun_mk (st := sNought) l38 c38 k38
  have b38 := F38.binds (ps := ["_law_many"]) fun _ _ _ _ _ _ us hl => match us, hl with | [_], _ => rfl
  have g38 := PySem.W.mg_of X G a38
  have F39 := fun_mk (st := sRowT2) l39 c39 k39
  have b39 := F39.binds (ps := ["_law_row"]) fun _ _ _ _ _ _ us hl => match us, hl with | [_], _ => rfl
  have g39 := PySem.W.mg_of X G a39
  have F40 := fun_mk (st := sDueS) l40 c40 k40
  have b40 := F40.binds (ps := ["_law_mlot", "_law_mwish", "_law_state"]) fun _ _ _ _ _ _ us hl => match us, hl with | [_, _, _], _ => rfl
  have g40 := PySem.W.mg_of X G a40
  have F41 := fun_mk (st := sSeen) l41 c41 k41
  have b41 := F41.binds (ps := ["_law_picker"]) fun _ _ _ _ _ _ us hl => match us, hl with | [_], _ => rfl
  have g41 := PySem.W.mg_of X G a41
  have FLe : FunD K "less" "less" (defArgs sLess) (defBody sLess) (defScope sLess) [.int 1] [] fLe (PySem.W.fnOf "less" "less" (defArgs sLess) (defBody sLess) (defScope sLess) (.ref TLe) kVLe dcLe pmLe anLe cdLe ctLe) :=
    ⟨⟨ocLe, odLe, .ref TLe, kVLe, dcLe, pmLe, anLe, cdLe, ctLe, slLe, rfl, lLe, cLe, .inr ⟨by simp, TLe, _, [.int 1 tkLe], nTLe, rfl, lTLe, rfl, .cons ⟨_, rfl⟩ .nil⟩, .inl rfl⟩, kLe⟩
  obtain ⟨dsLe, rdLe, bLe⟩ := FLe.binds1 (ps := ["row", "other", "times"]) 2 0 (by simp) rfl (fun T kV doc pm an cdv ct us its h1 h2 => by
    match us, its, h1, h2 with
    | [u0, u1], [k1], _, _ => exact ⟨_, rfl, rfl⟩)
  obtain ⟨ttLe, edLe⟩ : ∃ t, dsLe = [.int 1 t] := by
    cases rdLe with
    | cons r t =>
      cases t
      obtain ⟨q, rfl⟩ := r
      exact ⟨q, rfl⟩
  subst edLe
  obtain ⟨dzLe, rzLe, bzLe⟩ := FLe.binds1 (ps := ["row", "other", "times"]) 3 1 (by simp) rfl (fun T kV doc pm an cdv ct us its h1 h2 => by
    match us, its, h1, h2 with
    | [u0, u1, u2], [k1], _, _ => exact ⟨_, rfl, rfl⟩)
  have ezLe : dzLe = [] := by
    cases rzLe
    rfl
  subst ezLe
  have kwBL : KwdV K (.ref DBL) [("wish", .ref EBL)] := .inr ⟨DBL, rfl, fun q hq => by
    rw [List.mem_singleton.mp hq]
    exact ⟨_, nDBL, rfl⟩⟩
  have FBL : FunD K "best_load" "best_load" (defArgs sBestLoad) (defBody sBestLoad) (defScope sBestLoad) [] [("wish", .ref EBL)] fBL (PySem.W.fnOf "best_load" "best_load" (defArgs sBestLoad) (defBody sBestLoad) (defScope sBestLoad) .none (.ref DBL) dcBL pmBL anBL cdBL ctBL) :=
    ⟨⟨ocBL, odBL, .none, .ref DBL, dcBL, pmBL, anBL, cdBL, ctBL, slBL, rfl, lBL, cBL, .inl ⟨rfl, rfl⟩, kwBL⟩, kBL⟩
  obtain ⟨dsBL, rdBL, bBL⟩ := FBL.binds0 (ps := ["lot", "bill", "wish"]) 2 (by simp) rfl (fun D doc pm an cdv ct us ks h1 h2 => by
    match us, ks, h1, h2 with
    | [u0, u1], [k1], _, _ => exact ⟨_, _, _, _, _, _, rfl, rfl, rfl⟩)
  have edBL : dsBL = [.ref EBL] := Vals.ref1 rdBL
  subst edBL
  have kb2 : KBn K (PySem.W.fnOf "best_load" "best_load" (defArgs sBestLoad) (defBody sBestLoad) (defScope sBestLoad) .none (.ref DBL) dcBL pmBL anBL cdBL ctBL) ["lot", "bill", "wish"] 2 ["wish"] (fun us ws => us ++ ws) (fun vs zs => vs ++ zs) := ⟨fun s us ws _ h1 h2 => by
    match us, ws, h1, h2 with
    | [u0, u1], [w0], _, _ => exact .of_eq rfl, fun r1 r2 => r1.append r2⟩
  have FI1 := fun_mk (st := sBadInit) lI1 cI1 kI1
  have bI1 := FI1.binds (ps := ["self", "kind"]) fun _ _ _ _ _ _ us hl => match us, hl with | [_, _], _ => rfl
  have ox1 : OexC K C1 := ⟨⟨nm1, q1, N1, bs1, _, sn1, sub1, ab1, col1, dd1, m01, m11, m21, m31, m51, xL1, (show PySem.HandSPX.refsVE [.type "ValueError", .type "Exception", .type "BaseException", .type "object"] = true by decide +kernel)⟩, sa1, eC1, tC1, kC1⟩
  have kk1 : Cls2 K C1 "kind" := ⟨ox1, nW1, nF1⟩
  have FI3 := fun_mk (st := sBillInit) lI3 cI3 kI3
  have bI3 := FI3.binds (ps := ["self", "good"]) fun _ _ _ _ _ _ us hl => match us, hl with | [_, _], _ => rfl
  have ox3 : OexC K C3 := ⟨⟨nm3, q3, N3, bs3, _, sn3, sub3, ab3, col3, dd3, m03, m13, m23, m33, m53, xL3, (show PySem.HandSPX.refsVE [.type "ValueError", .type "Exception", .type "BaseException", .type "object"] = true by decide +kernel)⟩, sa3, eC3, tC3, kC3⟩
  have kk3 : Cls2 K C3 "good" := ⟨ox3, nW3, nF3⟩
  have FI2 := fun_mk (st := sWishInit) lI2 cI2 kI2
  have bI2 := FI2.binds (ps := ["self"]) fun _ _ _ _ _ _ us hl => match us, hl with | [_], _ => rfl
  have ox2 : OexB K C2 "ValueError.__new__" [.type "ValueError", .type "Exception", .type "BaseException", .type "object"] := ⟨⟨nm2, q2, N2, bs2, _, sn2, sub2, ab2, col2, dd2, m02, m12, m22, m32, m52, xL2, fun _ => rfl, fun _ => rfl⟩, by decide +kernel, sa2, eC2, tC2, kC2⟩
  have kk2 : Cls1 K C2 := ⟨ox2, nW2⟩
  have FSI := fun_mk (st := sStepInit) lSI cSI kSI
  have bSI := FSI.binds (ps := ["self", "change"]) fun _ _ _ _ _ _ us hl => match us, hl with | [_, _], _ => rfl
  have TS : StepTxt K mg CS := ⟨⟨pgS, hdS, poS, saS⟩, nS0, nS1, nS2, nS3, PySem.W.mg_of X G aCS⟩
  have MkS : Mk K CS fSI := ⟨mkS, aSI, iSI, kcS⟩
  have TP : PkTxt K mg CP := ⟨⟨pgP, hdP, poP, saP⟩, nP0, nP1, nP2, nP3, nP4, nP5, PySem.W.mg_of X G aCP⟩
  have mPI : Meth K CP "__init__" fPI := ⟨aPI, iPI, kPI⟩
  have kwPI : KwdV K (.ref DPI) [("wish", .ref EPI)] := .inr ⟨DPI, rfl, fun q hq => by
    rw [List.mem_singleton.mp hq]
    exact ⟨_, nDPI, rfl⟩⟩
  have FPI : FunD K "__init__" "Picker.__init__" (defArgs (sP 0)) (defBody (sP 0)) (defScope (sP 0)) [] [("wish", .ref EPI)] fPI (PySem.W.fnOf "__init__" "Picker.__init__" (defArgs (sP 0)) (defBody (sP 0)) (defScope (sP 0)) .none (.ref DPI) dcPI pmPI anPI cdPI ctPI) :=
    ⟨⟨ocPI, odPI, .none, .ref DPI, dcPI, pmPI, anPI, cdPI, ctPI, slPI, rfl, lPI, cPI, .inl ⟨rfl, rfl⟩, kwPI⟩, kPI⟩
  obtain ⟨dsPI, rdPI, bPI⟩ := FPI.binds0 (ps := ["self", "lot", "bill", "wish"]) 3 (by simp) rfl (fun D doc pm an cdv ct us ks h1 h2 => by
    match us, ks, h1, h2 with
    | [u0, u1, u2], [k1], _, _ => exact ⟨_, _, _, _, _, _, rfl, rfl, rfl⟩)
  have edPI : dsPI = [.ref EPI] := Vals.ref1 rdPI
  subst edPI
  have kbPI : KBn K (PySem.W.fnOf "__init__" "Picker.__init__" (defArgs (sP 0)) (defBody (sP 0)) (defScope (sP 0)) .none (.ref DPI) dcPI pmPI anPI cdPI ctPI) ["self", "lot", "bill", "wish"] 3 ["wish"] (fun us ws => us ++ ws) (fun vs zs => vs ++ zs) := ⟨fun s us ws _ h1 h2 => by
    match us, ws, h1, h2 with
    | [u0, u1, u2], [w0], _, _ => exact .of_eq rfl, fun r1 r2 => r1.append r2⟩
  have kbPI0 : KBn K (PySem.W.fnOf "__init__" "Picker.__init__" (defArgs (sP 0)) (defBody (sP 0)) (defScope (sP 0)) .none (.ref DPI) dcPI pmPI anPI cdPI ctPI) ["self", "lot", "bill", "wish"] 1 ["wish", "bill", "lot"] (fun us ws => us ++ ws.reverse) (fun vs zs => vs ++ zs.reverse) := ⟨fun s us ws _ h1 h2 => by
    match us, ws, h1, h2 with
    | [u0], [w0, w1, w2], _, _ => exact .of_eq rfl, fun r1 r2 => r1.append (rev_vals r2)⟩
  have mPLt : Meth K CP "lot" fPLt := ⟨aPLt, iPLt, kPLt⟩
  have FPLt := fun_mk (st := (sP 1)) lPLt cPLt kPLt
  have bPLt := FPLt.binds (ps := ["self"]) fun _ _ _ _ _ _ us hl => match us, hl with | [_], _ => rfl
  have mPBl : Meth K CP "bill" fPBl := ⟨aPBl, iPBl, kPBl⟩
  have FPBl := fun_mk (st := (sP 2)) lPBl cPBl kPBl
  have bPBl := FPBl.binds (ps := ["self"]) fun _ _ _ _ _ _ us hl => match us, hl with | [_], _ => rfl
  have mPWs : Meth K CP "wish" fPWs := ⟨aPWs, iPWs, kPWs⟩
  have FPWs := fun_mk (st := (sP 3)) lPWs cPWs kPWs
  have bPWs := FPWs.binds (ps := ["self"]) fun _ _ _ _ _ _ us hl => match us, hl with | [_], _ => rfl
  have mPCn : Meth K CP "counts" fPCn := ⟨aPCn, iPCn, kPCn⟩
  have FPCn := fun_mk (st := (sP 4)) lPCn cPCn kPCn
  have bPCn := FPCn.binds (ps := ["self"]) fun _ _ _ _ _ _ us hl => match us, hl with | [_], _ => rfl
  have mPLo : Meth K CP "loose" fPLo := ⟨aPLo, iPLo, kPLo⟩
  have FPLo := fun_mk (st := (sP 5)) lPLo cPLo kPLo
  have bPLo := FPLo.binds (ps := ["self"]) fun _ _ _ _ _ _ us hl => match us, hl with | [_], _ => rfl
  have mPBs : Meth K CP "best" fPBs := ⟨aPBs, iPBs, kPBs⟩
  have FPBs := fun_mk (st := (sP 13)) lPBs cPBs kPBs
  have bPBs := FPBs.binds (ps := ["self"]) fun _ _ _ _ _ _ us hl => match us, hl with | [_], _ => rfl
  have mPIB : Meth K CP "is_best" fPIB := ⟨aPIB, iPIB, kPIB⟩
  have FPIB := fun_mk (st := (sP 19)) lPIB cPIB kPIB
  have bPIB := FPIB.binds (ps := ["self"]) fun _ _ _ _ _ _ us hl => match us, hl with | [_], _ => rfl
  have mPLf : Meth K CP "left" fPLf := ⟨aPLf, iPLf, kPLf⟩
  have FPLf := fun_mk (st := (sP 20)) lPLf cPLf kPLf
  have bPLf := FPLf.binds (ps := ["self"]) fun _ _ _ _ _ _ us hl => match us, hl with | [_], _ => rfl
  have mPHa : Meth K CP "hampers" fPHa := ⟨aPHa, iPHa, kPHa⟩
  have FPHa := fun_mk (st := (sP 22)) lPHa cPHa kPHa
  have bPHa := FPHa.binds (ps := ["self"]) fun _ _ _ _ _ _ us hl => match us, hl with | [_], _ => rfl
  have mPLn : Meth K CP "__len__" fPLn := ⟨aPLn, iPLn, kPLn⟩
  have FPLn := fun_mk (st := (sP 23)) lPLn cPLn kPLn
  have bPLn := FPLn.binds (ps := ["self"]) fun _ _ _ _ _ _ us hl => match us, hl with | [_], _ => rfl
  have mPEq : Meth K CP "__eq__" fPEq := ⟨aPEq, iPEq, kPEq⟩
  have FPEq := fun_mk (st := (sP 24)) lPEq cPEq kPEq
  have bPEq := FPEq.binds (ps := ["self", "other"]) fun _ _ _ _ _ _ us hl => match us, hl with | [_, _], _ => rfl
  have mPSr : Meth K CP "__str__" fPSr := ⟨aPSr, iPSr, kPSr⟩
  have FPSr := fun_mk (st := (sP 25)) lPSr cPSr kPSr
  have bPSr := FPSr.binds (ps := ["self"]) fun _ _ _ _ _ _ us hl => match us, hl with | [_], _ => rfl
  have mPRp : Meth K CP "__repr__" fPRp := ⟨aPRp, iPRp, kPRp⟩
  have FPRp := fun_mk (st := (sP 26)) lPRp cPRp kPRp
  have bPRp := FPRp.binds (ps := ["self"]) fun _ _ _ _ _ _ us hl => match us, hl with | [_], _ => rfl
  have EQ : PkEq K CP := ⟨qha, qhn, qtk, qhm, qne, qic, qtc⟩
  have B : Bl mg := ⟨PySem.W.mg_none_of X G z_len, PySem.W.mg_none_of X G z_list, PySem.W.mg_none_of X G z_tuple, PySem.W.mg_none_of X G z_dict, PySem.W.mg_none_of X G z_str, PySem.W.mg_none_of X G z_int, PySem.W.mg_none_of X G z_bool, PySem.W.mg_none_of X G z_isinstance, PySem.W.mg_none_of X G z_all, PySem.W.mg_none_of X G z_range, PySem.W.mg_none_of X G z_sum, PySem.W.mg_none_of X G z_min, PySem.W.mg_none_of X G z_max, PySem.W.mg_none_of X G z_enumerate⟩
  have M : Consts mg := ⟨⟨_, PySem.W.mg_of X G v6⟩, ⟨_, PySem.W.mg_of X G v5⟩, ⟨_, PySem.W.mg_of X G v3⟩⟩
  refine ⟨PySem.W.fnOf "law" "law" (defArgs sLaw) (defBody sLaw) (defScope sLaw) .none kVL dcL pmL anL (.ref cL) ctL, [(cL, Pt)], spLaw K Pt, fun p hp => ?_, fun p hp => ?_, fun p hp => ?_, fun s u => .of_eq rfl, fun H a ns hl _ hH hS => ⟨a, ns, rfl, hS, hl, fun p hp => ?_, fun _ => rfl⟩, fun base KB GB TB => ?_⟩
  · rw [List.mem_singleton.mp hp]; exact hTab
  · rw [List.mem_singleton.mp hp]; exact nP
  · rw [List.mem_singleton.mp hp]; exact PySem.W.codeHd_of_K X hd
  · rw [List.mem_singleton.mp hp]; exact TabS.nil (hH (cL, Pt) List.mem_cons_self)
  · have Tb := TB (cL, Pt) List.mem_cons_self
    have bad1 : BadTxt l.prog w K mg base "BadLot" C1 "kind" "bad lot" := ⟨kk1, PySem.W.mg_of X G aC1, fI1, _, aI1, tI1, ok_badInit FI1 kk1, bI1⟩
    have bad3 : BadTxt l.prog w K mg base "BadBill" C3 "good" "bad bill" := ⟨kk3, PySem.W.mg_of X G aC3, fI3, _, aI3, tI3, ok_billInit FI3 kk3, bI3⟩
    have cDraw : Cal l.prog w K mg base CX0 1 "_law_draw" ["_law_feed_here", "_law_many"] spDraw := ⟨⟨f28, _, ok_draw F28 B.len, g28, k28, b28⟩⟩
    have cPick : Cal l.prog w K mg base CX0 2 "_law_pick" ["_law_feed_here", "_law_row"] spPick := ⟨⟨f29, _, ok_pick F29 B.len cDraw, g29, k29, b29⟩⟩
    have cHold : Cal l.prog w K mg base CX0 2 "_law_hold" ["_law_feed_here", "_law_goods", "_law_most"] spHold := ⟨⟨f33, _, ok_hold F33 B cDraw, g33, k33, b33⟩⟩
    have cLot : Cal l.prog w K mg base CX0 3 "_law_lot" ["_law_feed_here", "_law_goods", "_law_kinds", "_law_most"] spLot := ⟨⟨f34, _, ok_lot F34 B cDraw cHold, g34, k34, b34⟩⟩
    have cIH : Cal l.prog w K mg base CX0 1 "is_hold" ["hold", "goods"] spIsHold := ⟨⟨f0, _, ok_isHold F0 B M, g0, k0, b0⟩⟩
    have bad2 : BadTxt1 l.prog w K mg base "BadWish" C2 "bad wish" := ⟨kk2, PySem.W.mg_of X G aC2, fI2, _, aI2, tI2, ok_wishInit FI2 kk2, bI2⟩
    have cLk0 : Cal l.prog w K mg base CX0 2 "look_lot" ["lot"] spLook0 := ⟨⟨f1, _, ok_look0 F1 B M cIH, g1, k1, b1⟩⟩
    have cGo0 : Cal l.prog w K mg base CX0 3 "goods_of" ["lot"] spGoods0 := ⟨⟨f2, _, ok_goods0 F2 B cLk0, g2, k2, b2⟩⟩
    have cCo : Cal l.prog w K mg base CX0 1 "covers" ["row", "other"] (spCovers K) := ⟨⟨f9, _, ok_covers F9 B (PySem.W.mg_none_of X G z_zip), g9, k9, b9⟩⟩
    have cLW : Cal l.prog w K mg base (L2.CX l.prog w) 3 "look_wish" ["lot", "wish"] (spLookWish K C2) := ⟨⟨f12, _, ok_lookWish F12 B ⟨_, PySem.W.mg_of X G v99⟩ bad2, g12, k12, b12⟩⟩
    have cNu : Cal l.prog w K mg base CX0 1 "numbers_of" ["lot", "wish"] (spNumbers K) := ⟨⟨f13, _, ok_numbers F13 B, g13, k13, b13⟩⟩
    have cUn : Cal l.prog w K mg base CX0 1 "unit" ["place", "many"] spUnit := ⟨⟨f6, _, ok_unit F6, g6, k6, b6⟩⟩
    have cOp : Cal l.prog w K mg base CX0 1 "opposite" ["row"] spOpp := ⟨⟨f7, _, ok_opp F7 B, g7, k7, b7⟩⟩
    have cAb : Cal l.prog w K mg base CX0 1 "above" ["row"] spAbove := ⟨⟨f8, _, ok_above F8 B (PySem.W.mg_none_of X G z_max), g8, k8, b8⟩⟩
    have cMk : Cal l.prog w K mg base CX0 1 "marks" ["row"] spMarks := ⟨⟨f11, _, ok_marks F11 B, g11, k11, b11⟩⟩
    have cPk : Cal l.prog w K mg base CX0 1 "packed" ["lot", "counts", "good"] (spPacked K) := ⟨⟨f5, _, ok_packed F5 B (PySem.W.mg_none_of X G z_zip), g5, k5, b5⟩⟩
    have cNo : Cal l.prog w K mg base CX0 1 "is_nought" ["row"] spNought := ⟨⟨f10, _, ok_nought F10 B, g10, k10, b10⟩⟩
    have cLe : CalLess l.prog w K mg base := ⟨fLe, _, ttLe, ok_less FLe B (PySem.W.mg_none_of X G z_zip), PySem.W.mg_of X G aLe, kLe, bLe⟩
    have cLe3 : Cal l.prog w K mg base CX0 1 "less" ["row", "other", "times"] spLess := ⟨⟨fLe, _, ok_less FLe B (PySem.W.mg_none_of X G z_zip), PySem.W.mg_of X G aLe, kLe, bzLe⟩⟩
    have GSI : FnOk l.prog w K mg base CX0 2 fSI _ ["self", "change"] (spStepInit CS) := ok_stepInit FSI TS B cMk cAb cOp
    have cAF : Cal l.prog w K mg base CX0 1 "asks_fit" ["row", "asks"] spAsksFit := ⟨⟨f17, _, ok_asksFit F17, g17, k17, b17⟩⟩
    have cFF : Cal l.prog w K mg base CX0 2 "first_fitting" ["row", "steps"] (spFitting CS) := ⟨⟨f18, _, ok_fitting F18 TS cAF, g18, k18, b18⟩⟩
    have cSt : Cal l.prog w K mg base CX0 3 "settled" ["load", "steps"] (spSettled CS) := ⟨⟨f19, _, ok_settled F19 B TS cFF cLe3, g19, k19, b19⟩⟩
    have cCl : Cal l.prog w K mg base CX0 4 "columns_of" ["lot"] spCols := ⟨⟨f14, _, ok_cols F14 B cGo0 cUn, g14, k14, b14⟩⟩
    have cCs : Cal l.prog w K mg base CX0 4 "costs_of" ["lot", "wish"] (spCosts K) := ⟨⟨f15, _, ok_costs F15 B cGo0 cUn cNu, g15, k15, b15⟩⟩
    have cLs : Cal l.prog w K mg base CX0 1 "leaves_some" ["least", "one", "other"] spLeaves := ⟨⟨f21, _, ok_leaves F21 B (PySem.W.mg_none_of X G z_zip) (PySem.W.mg_none_of X G z_any) (PySem.W.mg_none_of X G z_max), g21, k21, b21⟩⟩
    have cSp : Cal l.prog w K mg base CX0 2 "is_spanned" ["least", "one", "other", "steps"] (spSpanned CS) := ⟨⟨f22, _, ok_spanned F22 TS cAF cLs, g22, k22, b22⟩⟩
    have cWf : Cal l.prog w K mg base CX0 2 "worse_first" ["change", "costs"] spWorse := ⟨⟨f16, _, ok_worse F16 B (PySem.W.mg_none_of X G z_zip) cOp, g16, k16, b16⟩⟩
    have cSd : Cal l.prog w K mg base CX0 4 "seeds_of" ["lot", "bound"] spSeeds := ⟨⟨f20, _, ok_seeds F20 B cGo0 cUn cCo cLe, g20, k20, b20⟩⟩
    have cTk : Cal l.prog w K mg base CX0 2 "take_in" ["step", "steps", "waiting", "columns", "bound"] (spTakeIn K CS) := ⟨⟨f23, _, ok_takeIn F23 B (PySem.W.mg_none_of X G z_zip) (PySem.W.mg_none_of X G z_max) TS cPk cCo, g23, k23, b23⟩⟩
    have cWs : Cal l.prog w K mg base CX0 5 "steps_within" ["lot", "wish", "bound"] (spStepsW K CS) := ⟨⟨f24, _, ok_stepsW F24 B TS MkS GSI bSI cCl cCs cSd cSp cLe cSt cNo cTk cWf, g24, k24, b24⟩⟩
    have cAs : Cal l.prog w K mg base CX0 1 "as_load" ["row", "kinds"] (spAsLoad K) := ⟨⟨f25, _, ok_asLoad F25, g25, k25, b25⟩⟩
    have cLk : Cal l.prog w K mg base (L2.CX l.prog w) 3 "look_lot" ["lot"] (spLook C1) := ⟨⟨f1, _, ok_look F1 B M bad1 cIH, g1, k1, b1⟩⟩
    have cGo : Cal l.prog w K mg base (L2.CX l.prog w) 4 "goods_of" ["lot"] (spGoods C1) := ⟨⟨f2, _, ok_goods F2 B cLk, g2, k2, b2⟩⟩
    have cFi : Cal l.prog w K mg base CX0 1 "first_wrong" ["row", "many"] (spFirst K) := ⟨⟨f3, _, ok_first F3 B ⟨_, PySem.W.mg_of X G v30⟩, g3, k3, b3⟩⟩
    have cLB : Cal l.prog w K mg base (L2.CX l.prog w) 5 "look_bill" ["lot", "bill"] (spLookBill K C1 C3) := ⟨⟨f4, _, ok_lookBill F4 bad3 cFi cGo, g4, k4, b4⟩⟩
    have cBL : CalBL l.prog w K mg base 6 "best_load" (spBestLoad K C1 C3 C2) := ⟨fBL, _, EBL, ok_bestLoad FBL B (PySem.W.mg_none_of X G z_zip) (PySem.W.mg_none_of X G z_reversed) cLB cLW cWs cSt cAs, PySem.W.mg_of X G aBL, kBL, bBL, fun H => .inr ⟨_, #[], nTBL, lTBL, rfl, rfl, by decide, .nil⟩, kb2⟩
    have cRt : Cal l.prog w K mg base CX0 1 "row_text" ["row"] (spRowText K) := ⟨⟨f26, _, ok_rowText F26 B, g26, k26, b26⟩⟩
    have mLt : MCal l.prog w K mg base CX0 1 CP "lot" ["self"] (spPLot CP) := ⟨fPLt, _, ok_pLot FPLt TP, mPLt, bPLt⟩
    have mBl : MCal l.prog w K mg base CX0 1 CP "bill" ["self"] (spBill CP) := ⟨fPBl, _, ok_pBill FPBl TP, mPBl, bPBl⟩
    have mWs : MCal l.prog w K mg base CX0 1 CP "wish" ["self"] (spPWish CP) := ⟨fPWs, _, ok_pWish FPWs TP, mPWs, bPWs⟩
    have mCn : MCal l.prog w K mg base CX0 1 CP "counts" ["self"] (spCnt CP) := ⟨fPCn, _, ok_pCnt FPCn TP, mPCn, bPCn⟩
    have mLo : MCal l.prog w K mg base CX0 1 CP "loose" ["self"] (spLoose CP) := ⟨fPLo, _, ok_pLoose FPLo TP, mPLo, bPLo⟩
    have mBs : MCal l.prog w K mg base (L2.CX l.prog w) 7 CP "best" ["self"] (spPBest K CP) := ⟨fPBs, _, ok_pBest FPBs TP mBl cBL, mPBs, bPBs⟩
    have mIB : MCal l.prog w K mg base (L2.CX l.prog w) 8 CP "is_best" ["self"] (spIsB K CP) := ⟨fPIB, _, ok_pIsB FPIB TP mBs mCn mLo, mPIB, bPIB⟩
    have mHa : MCal l.prog w K mg base CX0 2 CP "hampers" ["self"] (spPHam CP) := ⟨fPHa, _, ok_pHam FPHa B TP mCn, mPHa, bPHa⟩
    have mLn : MCal l.prog w K mg base CX0 2 CP "__len__" ["self"] (spPLen CP) := ⟨fPLn, _, ok_pLen FPLn B TP mCn, mPLn, bPLn⟩
    have mSr : MCal l.prog w K mg base CX0 2 CP "__str__" ["self"] (spPStr K CP) := ⟨fPSr, _, ok_pStr FPSr B TP mCn cRt, mPSr, bPSr⟩
    have mLf : MCal l.prog w K mg base CX0 1 CP "left" ["self"] (spLeft CP) := ⟨fPLf, _, ok_pLeft FPLf B TP, mPLf, bPLf⟩
    have mEq : MCal l.prog w K mg base CX0 1 CP "__eq__" ["self", "other"] (spPEq K CP) := ⟨fPEq, _, ok_pEq FPEq B TP EQ, mPEq, bPEq⟩
    have mRp : MCal l.prog w K mg base CX0 2 CP "__repr__" ["self"] (spPRep CP) := ⟨fPRp, _, ok_pRep FPRp B TP mLo, mPRp, bPRp⟩
    have MM : PkM l.prog w K mg base CP C1 C3 C2 := { TP := TP, lt := mLt, bl := mBl, ws := mWs, cn := mCn, lo := mLo, ha := mHa, ln := mLn, sr := mSr, rp := mRp, lf := mLf, ib := mIB, eq := mEq, EQ := EQ, pi := ⟨fPI, _, EPI, ok_pInit FPI B TP cLB cLW, ⟨mkP, aPI, iPI, kcP⟩, kbPI, kbPI0, bPI, fun H => .inr ⟨_, #[], nTPI, lTPI, rfl, rfl, by decide, .nil⟩⟩ }
    have cR2 : Cal l.prog w K mg base CX0 1 "_law_row_text" ["_law_row"] (spRowText K) := ⟨⟨f39, _, ok_rowText2 F39 B, g39, k39, b39⟩⟩
    have cSo : Cal l.prog w K mg base CX0 6 "_law_seen_of" ["_law_picker"] (spSeen CP) := ⟨⟨f41, _, ok_seenOf F41 B (PySem.W.mg_none_of X G z_repr) MM, g41, k41, b41⟩⟩
    have T : Txt l.prog w K mg base CP C1 C3 C2 E1 E2 E3 := {
        B := B
        feed := ⟨⟨f27, _, ok_feed F27 B.list, g27, k27, b27⟩⟩
        same3 := ⟨⟨f30, _, ok_same F30 B g30 b30 3, g30, k30, b30⟩⟩
        small := ⟨⟨f35, _, ok_smallX F35 cDraw cLot, g35, k35, b35⟩⟩
        sb := ⟨⟨f37, _, ok_smallBill F37 B cDraw, g37, k37, b37⟩⟩
        wi := ⟨⟨f36, _, ok_wish F36 B cDraw cPick, g36, k36, b36⟩⟩
        gt := ⟨⟨f32, _, ok_great F32 cDraw cPick, g32, k32, b32⟩⟩
        pick := cPick
        no := ⟨⟨f38, _, ok_ng F38, g38, k38, b38⟩⟩
        ds := ⟨⟨f40, _, ok_dueS F40 B cR2, g40, k40, b40⟩⟩
        so := cSo
        bl := cBL
        M := MM
        word := ⟨f31, oc31, od31, kV31, dc31, pm31, an31, cd31, ct31, sl31, g31, k31, l31, c31, b31⟩
        cls := ⟨PySem.W.mg_of X G aE1, PySem.W.mg_of X G aE2, PySem.W.mg_of X G aE3⟩
        f1 := ⟨⟨ga1, gg1, eC1, hC1⟩, nW1, exm_by eE1 iE1 tE1 s1E, fun z => Bool.noConfusion z⟩
        f2 := ⟨⟨ga3, gg3, eC3, hC3⟩, nW3, exm_by eE1 iE1 tE1 s3E, fun z => Bool.noConfusion z⟩
        f3 := ⟨⟨ga2, gg2, eC2, hC2⟩, nW2, exm_by eE1 iE1 tE1 s2E, fun z => Bool.noConfusion z⟩ }
    exact ok_law lL cdL T Tb
end HL

open PySem PySem.W PyProof.Rows
set_option maxHeartbeats 0 in
theorem PySem.Challenge.cw_hamperlot_k42_a_picker_begun_holds : PySem.Challenge.rw_hamperlot_k42_a_picker_begun.Holds := by
  w_on; o_law; k_head; (case hw => w_witness2)
  k_fill
  refine LamX.walk_ofTs (l := PySem.Challenge.rw_hamperlot_k42_a_picker_begun) (n := 63) (k := 12) (x := "_law_script") (CX := fun _ => L2.CX0) rfl (by decide) rfl ⟨rfl, by decide, by decide⟩ (fun w h Y => PySem.W.km_in_of Y) ?F (fun _ _ _ _ _ h => h)
  case F =>
    intro w mg fa h Y KX G hmg
    refine' HL.all_mk KX G hmg (PySem.W.km_tabs_of Y _ (List.mem_cons_self))  ?a0 ?l0 ?c0 ?k0 ?a1 ?l1 ?c1 ?k1 ?a2 ?l2 ?c2 ?k2 ?a3 ?l3 ?c3 ?k3 ?a4 ?l4 ?c4 ?k4 ?a5 ?l5 ?c5 ?k5 ?a6 ?l6 ?c6 ?k6 ?a7 ?l7 ?c7 ?k7 ?a8 ?l8 ?c8 ?k8 ?a9 ?l9 ?c9 ?k9 ?a10 ?l10 ?c10 ?k10 ?a11 ?l11 ?c11 ?k11 ?a12 ?l12 ?c12 ?k12 ?a13 ?l13 ?c13 ?k13 ?a14 ?l14 ?c14 ?k14 ?a15 ?l15 ?c15 ?k15 ?a16 ?l16 ?c16 ?k16 ?a17 ?l17 ?c17 ?k17 ?a18 ?l18 ?c18 ?k18 ?a19 ?l19 ?c19 ?k19 ?a20 ?l20 ?c20 ?k20 ?a21 ?l21 ?c21 ?k21 ?a22 ?l22 ?c22 ?k22 ?a23 ?l23 ?c23 ?k23 ?a24 ?l24 ?c24 ?k24 ?a25 ?l25 ?c25 ?k25 ?a26 ?l26 ?c26 ?k26 ?a27 ?l27 ?c27 ?k27 ?a28 ?l28 ?c28 ?k28 ?a29 ?l29 ?c29 ?k29 ?a30 ?l30 ?c30 ?k30 ?a31 ?l31 ?c31 ?k31 ?a32 ?l32 ?c32 ?k32 ?a33 ?l33 ?c33 ?k33 ?a34 ?l34 ?c34 ?k34 ?a35 ?l35 ?c35 ?k35 ?a36 ?l36 ?c36 ?k36 ?a37 ?l37 ?c37 ?k37 ?a38 ?l38 ?c38 ?k38 ?a39 ?l39 ?c39 ?k39 ?a40 ?l40 ?c40 ?k40 ?a41 ?l41 ?c41 ?k41 ?aLe ?lLe ?cLe ?kLe ?lTLe ?aBL ?lBL ?cBL ?kBL ?nDBL ?lTBL ?aL ?lL ?cdL ?nP ?hd ?aC1 ?xL1 ?sa1 ?ga1 ?gg1 ?nW1 ?nF1 ?aI1 ?tI1 ?lI1 ?cI1 ?kI1 ?kC1 ?eC1 ?tC1 ?hC1 ?iC1 ?aC3 ?xL3 ?sa3 ?ga3 ?gg3 ?nW3 ?nF3 ?aI3 ?tI3 ?lI3 ?cI3 ?kI3 ?kC3 ?eC3 ?tC3 ?hC3 ?iC3 ?aC2 ?xL2 ?sa2 ?ga2 ?gg2 ?nW2 ?aI2 ?tI2 ?lI2 ?cI2 ?kI2 ?kC2 ?eC2 ?tC2 ?hC2 ?iC2 ?aCS ?aSI ?iSI ?lSI ?cSI ?kSI ?pgS ?hdS ?poS ?saS ?mkS ?kcS ?nS0 ?nS1 ?nS2 ?nS3 ?v6 ?v5 ?v3 ?v30 ?v99 ?aCP ?pgP ?hdP ?poP ?saP ?mkP ?kcP ?nP0 ?nP1 ?nP2 ?nP3 ?nP4 ?nP5 ?aPI ?iPI ?lPI ?cPI ?kPI ?nDPI ?lTPI ?aPLt ?iPLt ?lPLt ?cPLt ?kPLt ?aPBl ?iPBl ?lPBl ?cPBl ?kPBl ?aPWs ?iPWs ?lPWs ?cPWs ?kPWs ?aPCn ?iPCn ?lPCn ?cPCn ?kPCn ?aPLo ?iPLo ?lPLo ?cPLo ?kPLo ?aPBs ?iPBs ?lPBs ?cPBs ?kPBs ?aPIB ?iPIB ?lPIB ?cPIB ?kPIB ?aPLf ?iPLf ?lPLf ?cPLf ?kPLf ?aPHa ?iPHa ?lPHa ?cPHa ?kPHa ?aPLn ?iPLn ?lPLn ?cPLn ?kPLn ?aPEq ?iPEq ?lPEq ?cPEq ?kPEq ?aPSr ?iPSr ?lPSr ?cPSr ?kPSr ?aPRp ?iPRp ?lPRp ?cPRp ?kPRp ?qha ?qhn ?qtk ?qhm ?qne ?qic ?qtc ?aE1 ?aE2 ?aE3 ?eE1 ?iE1 ?tE1 ?s1E ?s2E ?s3E ?z_len ?z_list ?z_tuple ?z_dict ?z_str ?z_int ?z_bool ?z_isinstance ?z_all ?z_range ?z_sum ?z_min ?z_max ?z_enumerate ?z_zip ?z_any ?z_sorted ?z_reversed ?z_repr
    (case a0 => first | k_is | rfl)
    (case l0 => first | k_is | rfl)
    (case c0 => first | k_is | rfl)
    (case k0 => first | k_is | rfl)
    (case a1 => first | k_is | rfl)
    (case l1 => first | k_is | rfl)
    (case c1 => first | k_is | rfl)
    (case k1 => first | k_is | rfl)
    (case a2 => first | k_is | rfl)
    (case l2 => first | k_is | rfl)
    (case c2 => first | k_is | rfl)
    (case k2 => first | k_is | rfl)
    (case a3 => first | k_is | rfl)
    (case l3 => first | k_is | rfl)
    (case c3 => first | k_is | rfl)
    (case k3 => first | k_is | rfl)
    (case a4 => first | k_is | rfl)
    (case l4 => first | k_is | rfl)
    (case c4 => first | k_is | rfl)
    (case k4 => first | k_is | rfl)
    (case a5 => first | k_is | rfl)
    (case l5 => first | k_is | rfl)
    (case c5 => first | k_is | rfl)
    (case k5 => first | k_is | rfl)
    (case a6 => first | k_is | rfl)
    (case l6 => first | k_is | rfl)
    (case c6 => first | k_is | rfl)
    (case k6 => first | k_is | rfl)
    (case a7 => first | k_is | rfl)
    (case l7 => first | k_is | rfl)
    (case c7 => first | k_is | rfl)
    (case k7 => first | k_is | rfl)
    (case a8 => first | k_is | rfl)
    (case l8 => first | k_is | rfl)
    (case c8 => first | k_is | rfl)
    (case k8 => first | k_is | rfl)
    (case a9 => first | k_is | rfl)
    (case l9 => first | k_is | rfl)
    (case c9 => first | k_is | rfl)
    (case k9 => first | k_is | rfl)
    (case a10 => first | k_is | rfl)
    (case l10 => first | k_is | rfl)
    (case c10 => first | k_is | rfl)
    (case k10 => first | k_is | rfl)
    (case a11 => first | k_is | rfl)
    (case l11 => first | k_is | rfl)
    (case c11 => first | k_is | rfl)
    (case k11 => first | k_is | rfl)
    (case a12 => first | k_is | rfl)
    (case l12 => first | k_is | rfl)
    (case c12 => first | k_is | rfl)
    (case k12 => first | k_is | rfl)
    (case a13 => first | k_is | rfl)
    (case l13 => first | k_is | rfl)
    (case c13 => first | k_is | rfl)
    (case k13 => first | k_is | rfl)
    (case a14 => first | k_is | rfl)
    (case l14 => first | k_is | rfl)
    (case c14 => first | k_is | rfl)
    (case k14 => first | k_is | rfl)
    (case a15 => first | k_is | rfl)
    (case l15 => first | k_is | rfl)
    (case c15 => first | k_is | rfl)
    (case k15 => first | k_is | rfl)
    (case a16 => first | k_is | rfl)
    (case l16 => first | k_is | rfl)
    (case c16 => first | k_is | rfl)
    (case k16 => first | k_is | rfl)
    (case a17 => first | k_is | rfl)
    (case l17 => first | k_is | rfl)
    (case c17 => first | k_is | rfl)
    (case k17 => first | k_is | rfl)
    (case a18 => first | k_is | rfl)
    (case l18 => first | k_is | rfl)
    (case c18 => first | k_is | rfl)
    (case k18 => first | k_is | rfl)
    (case a19 => first | k_is | rfl)
    (case l19 => first | k_is | rfl)
    (case c19 => first | k_is | rfl)
    (case k19 => first | k_is | rfl)
    (case a20 => first | k_is | rfl)
    (case l20 => first | k_is | rfl)
    (case c20 => first | k_is | rfl)
    (case k20 => first | k_is | rfl)
    (case a21 => first | k_is | rfl)
    (case l21 => first | k_is | rfl)
    (case c21 => first | k_is | rfl)
    (case k21 => first | k_is | rfl)
    (case a22 => first | k_is | rfl)
    (case l22 => first | k_is | rfl)
    (case c22 => first | k_is | rfl)
    (case k22 => first | k_is | rfl)
    (case a23 => first | k_is | rfl)
    (case l23 => first | k_is | rfl)
    (case c23 => first | k_is | rfl)
    (case k23 => first | k_is | rfl)
    (case a24 => first | k_is | rfl)
    (case l24 => first | k_is | rfl)
    (case c24 => first | k_is | rfl)
    (case k24 => first | k_is | rfl)
    (case a25 => first | k_is | rfl)
    (case l25 => first | k_is | rfl)
    (case c25 => first | k_is | rfl)
    (case k25 => first | k_is | rfl)
    (case a26 => first | k_is | rfl)
    (case l26 => first | k_is | rfl)
    (case c26 => first | k_is | rfl)
    (case k26 => first | k_is | rfl)
    (case a27 => first | k_is | rfl)
    (case l27 => first | k_is | rfl)
    (case c27 => first | k_is | rfl)
    (case k27 => first | k_is | rfl)
    (case a28 => first | k_is | rfl)
    (case l28 => first | k_is | rfl)
    (case c28 => first | k_is | rfl)
    (case k28 => first | k_is | rfl)
    (case a29 => first | k_is | rfl)
    (case l29 => first | k_is | rfl)
    (case c29 => first | k_is | rfl)
    (case k29 => first | k_is | rfl)
    (case a30 => first | k_is | rfl)
    (case l30 => first | k_is | rfl)
    (case c30 => first | k_is | rfl)
    (case k30 => first | k_is | rfl)
    (case a31 => first | k_is | rfl)
    (case l31 => first | k_is | rfl)
    (case c31 => first | k_is | rfl)
    (case k31 => first | k_is | rfl)
    (case a32 => first | k_is | rfl)
    (case l32 => first | k_is | rfl)
    (case c32 => first | k_is | rfl)
    (case k32 => first | k_is | rfl)
    (case a33 => first | k_is | rfl)
    (case l33 => first | k_is | rfl)
    (case c33 => first | k_is | rfl)
    (case k33 => first | k_is | rfl)
    (case a34 => first | k_is | rfl)
    (case l34 => first | k_is | rfl)
    (case c34 => first | k_is | rfl)
    (case k34 => first | k_is | rfl)
    (case a35 => first | k_is | rfl)
    (case l35 => first | k_is | rfl)
    (case c35 => first | k_is | rfl)
    (case k35 => first | k_is | rfl)
    (case a36 => first | k_is | rfl)
    (case l36 => first | k_is | rfl)
    (case c36 => first | k_is | rfl)
    (case k36 => first | k_is | rfl)
    (case a37 => first | k_is | rfl)
    (case l37 => first | k_is | rfl)
    (case c37 => first | k_is | rfl)
    (case k37 => first | k_is | rfl)
    (case a38 => first | k_is | rfl)
    (case l38 => first | k_is | rfl)
    (case c38 => first | k_is | rfl)
    (case k38 => first | k_is | rfl)
    (case a39 => first | k_is | rfl)
    (case l39 => first | k_is | rfl)
    (case c39 => first | k_is | rfl)
    (case k39 => first | k_is | rfl)
    (case a40 => first | k_is | rfl)
    (case l40 => first | k_is | rfl)
    (case c40 => first | k_is | rfl)
    (case k40 => first | k_is | rfl)
    (case a41 => first | k_is | rfl)
    (case l41 => first | k_is | rfl)
    (case c41 => first | k_is | rfl)
    (case k41 => first | k_is | rfl)
    (case aLe => first | k_is | rfl)
    (case lLe => first | k_is | rfl)
    (case cLe => first | k_is | rfl)
    (case kLe => first | k_is | rfl)
    (case lTLe => first | k_is | rfl)
    (case aBL => first | k_is | rfl)
    (case lBL => first | k_is | rfl)
    (case cBL => first | k_is | rfl)
    (case kBL => first | k_is | rfl)
    (case nDBL => first | k_is | rfl)
    (case lTBL => first | k_is | rfl)
    (case aL => first | k_is | rfl)
    (case lL => first | k_is | rfl)
    (case cdL => first | k_is | rfl)
    (case nP => first | k_is | rfl)
    (case hd => first | k_is | rfl)
    (case aC1 => first | k_is | rfl)
    (case xL1 => first | k_is | rfl)
    (case sa1 => first | k_is | rfl)
    (case ga1 => first | k_is | rfl)
    (case gg1 => first | k_is | rfl)
    (case nW1 => first | k_is | rfl)
    (case nF1 => first | k_is | rfl)
    (case aI1 => first | k_is | rfl)
    (case tI1 => first | k_is | rfl)
    (case lI1 => first | k_is | rfl)
    (case cI1 => first | k_is | rfl)
    (case kI1 => first | k_is | rfl)
    (case kC1 => first | k_is | rfl)
    (case eC1 => first | k_is | rfl)
    (case tC1 => first | k_is | rfl)
    (case hC1 => first | k_is | rfl)
    (case iC1 => first | k_is | rfl)
    (case aC3 => first | k_is | rfl)
    (case xL3 => first | k_is | rfl)
    (case sa3 => first | k_is | rfl)
    (case ga3 => first | k_is | rfl)
    (case gg3 => first | k_is | rfl)
    (case nW3 => first | k_is | rfl)
    (case nF3 => first | k_is | rfl)
    (case aI3 => first | k_is | rfl)
    (case tI3 => first | k_is | rfl)
    (case lI3 => first | k_is | rfl)
    (case cI3 => first | k_is | rfl)
    (case kI3 => first | k_is | rfl)
    (case kC3 => first | k_is | rfl)
    (case eC3 => first | k_is | rfl)
    (case tC3 => first | k_is | rfl)
    (case hC3 => first | k_is | rfl)
    (case iC3 => first | k_is | rfl)
    (case aC2 => first | k_is | rfl)
    (case xL2 => first | k_is | rfl)
    (case sa2 => first | k_is | rfl)
    (case ga2 => first | k_is | rfl)
    (case gg2 => first | k_is | rfl)
    (case nW2 => first | k_is | rfl)
    (case aI2 => first | k_is | rfl)
    (case tI2 => first | k_is | rfl)
    (case lI2 => first | k_is | rfl)
    (case cI2 => first | k_is | rfl)
    (case kI2 => first | k_is | rfl)
    (case kC2 => first | k_is | rfl)
    (case eC2 => first | k_is | rfl)
    (case tC2 => first | k_is | rfl)
    (case hC2 => first | k_is | rfl)
    (case iC2 => first | k_is | rfl)
    (case aCS => first | k_is | rfl)
    (case aSI => first | k_is | rfl)
    (case iSI => first | k_is | rfl)
    (case lSI => first | k_is | rfl)
    (case cSI => first | k_is | rfl)
    (case kSI => first | k_is | rfl)
    (case pgS => first | k_is | rfl)
    (case hdS => first | k_is | rfl)
    (case poS => first | k_is | rfl)
    (case saS => first | k_is | rfl)
    (case mkS => first | k_is | rfl)
    (case kcS => first | k_is | rfl)
    (case nS0 => first | k_is | rfl)
    (case nS1 => first | k_is | rfl)
    (case nS2 => first | k_is | rfl)
    (case nS3 => first | k_is | rfl)
    (case v6 => first | k_is | rfl)
    (case v5 => first | k_is | rfl)
    (case v3 => first | k_is | rfl)
    (case v30 => first | k_is | rfl)
    (case v99 => first | k_is | rfl)
    (case aCP => first | k_is | rfl)
    (case pgP => first | k_is | rfl)
    (case hdP => first | k_is | rfl)
    (case poP => first | k_is | rfl)
    (case saP => first | k_is | rfl)
    (case mkP => first | k_is | rfl)
    (case kcP => first | k_is | rfl)
    (case nP0 => first | k_is | rfl)
    (case nP1 => first | k_is | rfl)
    (case nP2 => first | k_is | rfl)
    (case nP3 => first | k_is | rfl)
    (case nP4 => first | k_is | rfl)
    (case nP5 => first | k_is | rfl)
    (case aPI => first | k_is | rfl)
    (case iPI => first | k_is | rfl)
    (case lPI => first | k_is | rfl)
    (case cPI => first | k_is | rfl)
    (case kPI => first | k_is | rfl)
    (case nDPI => first | k_is | rfl)
    (case lTPI => first | k_is | rfl)
    (case aPLt => first | k_is | rfl)
    (case iPLt => first | k_is | rfl)
    (case lPLt => first | k_is | rfl)
    (case cPLt => first | k_is | rfl)
    (case kPLt => first | k_is | rfl)
    (case aPBl => first | k_is | rfl)
    (case iPBl => first | k_is | rfl)
    (case lPBl => first | k_is | rfl)
    (case cPBl => first | k_is | rfl)
    (case kPBl => first | k_is | rfl)
    (case aPWs => first | k_is | rfl)
    (case iPWs => first | k_is | rfl)
    (case lPWs => first | k_is | rfl)
    (case cPWs => first | k_is | rfl)
    (case kPWs => first | k_is | rfl)
    (case aPCn => first | k_is | rfl)
    (case iPCn => first | k_is | rfl)
    (case lPCn => first | k_is | rfl)
    (case cPCn => first | k_is | rfl)
    (case kPCn => first | k_is | rfl)
    (case aPLo => first | k_is | rfl)
    (case iPLo => first | k_is | rfl)
    (case lPLo => first | k_is | rfl)
    (case cPLo => first | k_is | rfl)
    (case kPLo => first | k_is | rfl)
    (case aPBs => first | k_is | rfl)
    (case iPBs => first | k_is | rfl)
    (case lPBs => first | k_is | rfl)
    (case cPBs => first | k_is | rfl)
    (case kPBs => first | k_is | rfl)
    (case aPIB => first | k_is | rfl)
    (case iPIB => first | k_is | rfl)
    (case lPIB => first | k_is | rfl)
    (case cPIB => first | k_is | rfl)
    (case kPIB => first | k_is | rfl)
    (case aPLf => first | k_is | rfl)
    (case iPLf => first | k_is | rfl)
    (case lPLf => first | k_is | rfl)
    (case cPLf => first | k_is | rfl)
    (case kPLf => first | k_is | rfl)
    (case aPHa => first | k_is | rfl)
    (case iPHa => first | k_is | rfl)
    (case lPHa => first | k_is | rfl)
    (case cPHa => first | k_is | rfl)
    (case kPHa => first | k_is | rfl)
    (case aPLn => first | k_is | rfl)
    (case iPLn => first | k_is | rfl)
    (case lPLn => first | k_is | rfl)
    (case cPLn => first | k_is | rfl)
    (case kPLn => first | k_is | rfl)
    (case aPEq => first | k_is | rfl)
    (case iPEq => first | k_is | rfl)
    (case lPEq => first | k_is | rfl)
    (case cPEq => first | k_is | rfl)
    (case kPEq => first | k_is | rfl)
    (case aPSr => first | k_is | rfl)
    (case iPSr => first | k_is | rfl)
    (case lPSr => first | k_is | rfl)
    (case cPSr => first | k_is | rfl)
    (case kPSr => first | k_is | rfl)
    (case aPRp => first | k_is | rfl)
    (case iPRp => first | k_is | rfl)
    (case lPRp => first | k_is | rfl)
    (case cPRp => first | k_is | rfl)
    (case kPRp => first | k_is | rfl)
    (case qha => first | k_is | rfl)
    (case qhn => first | k_is | rfl)
    (case qtk => first | k_is | rfl)
    (case qhm => first | k_is | rfl)
    (case qne => first | k_is | rfl)
    (case qic => first | k_is | rfl)
    (case qtc => first | k_is | rfl)
    (case aE1 => first | k_is | rfl)
    (case aE2 => first | k_is | rfl)
    (case aE3 => first | k_is | rfl)
    (case eE1 => first | k_is | rfl)
    (case iE1 => first | k_is | rfl)
    (case tE1 => first | k_is | rfl)
    (case s1E => first | k_is | rfl)
    (case s2E => first | k_is | rfl)
    (case s3E => first | k_is | rfl)
    (case z_len => first | k_is | rfl)
    (case z_list => first | k_is | rfl)
    (case z_tuple => first | k_is | rfl)
    (case z_dict => first | k_is | rfl)
    (case z_str => first | k_is | rfl)
    (case z_int => first | k_is | rfl)
    (case z_bool => first | k_is | rfl)
    (case z_isinstance => first | k_is | rfl)
    (case z_all => first | k_is | rfl)
    (case z_range => first | k_is | rfl)
    (case z_sum => first | k_is | rfl)
    (case z_min => first | k_is | rfl)
    (case z_max => first | k_is | rfl)
    (case z_enumerate => first | k_is | rfl)
    (case z_zip => first | k_is | rfl)
    (case z_any => first | k_is | rfl)
    (case z_sorted => first | k_is | rfl)
    (case z_reversed => first | k_is | rfl)
    (case z_repr => first | k_is | rfl)

