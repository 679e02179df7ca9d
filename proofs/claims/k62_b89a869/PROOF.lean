import PyProof.Rows.All
import Wide.All
import OpenK.AllK
import Wide.FinOn
import PySem.Challenge.RW_hamperlot_k62_whole_bills_many_times_ove
import HandS.ForMost
import HandS.Exc
import HandS.TryOnly
import HandS.ExcInit
import HandS.ExcField
import HandS.WordsExc
import HandS.Lambda
import HandS.EndTab
import HandS.IsInst
import HandS.TupMul
import HandS.TupAny
import HandS.Walk
import HandS.Defaults
import KE.KTupSum
import KE.DatumOrd
import KE.GoesEnum
import HandS.TryMany
import HandS.Wide
import HandS.Zip
import HandS.SortInts
import HandS.Conv
import HandS.SortRule
import HandS.Deep
import KE.SortKeyHeap
import KE.KSortKey
import KE.GoesZip
import KE.GoesMore
import HandS.Rev
import HandS.Style
import KE.KEqSeq
import HandS.RevRange
import KE.KNestM
set_option Elab.async false
set_option linter.all false
set_option maxRecDepth 100000
set_option maxHeartbeats 4000000
/-! Rules of one's own beside the layer's: sum, max, min of a tuple of ints; enumerate of a tuple; a tuple times 1. -/
namespace HL
open PySem PySem.Spec PyProof.Rows L2
section
variable {X : Cx}
theorem tupI {pins : List (Addr × Obj)} {σ : L2.St} {H : Hp} {s : Shared} {a : Addr} {ns : List Int} (I : Inv X pins σ H s) (h : SqT X.K H a (ns.map V.int)) :
    ∃ its : List Value, IntsAre its ns ∧ s.heap.IsTuple a its.toArray := by
  obtain ⟨its, rv, ⟨o, ho, hc, n, hd⟩, _⟩ := I.tuple h
  exact ⟨its, rv.ints, o, ho, hc, n, hd⟩
/-- sum(t) -/
def rSumT (K : PySem.W.Frag) : List V → Hp → VK → Prop := fun vs H Q =>
  ∃ (a : Addr) (ns : List Int), vs = [V.ref a] ∧ SqT K H a (ns.map V.int) ∧ Q (.int ns.sum) H
theorem cr_sumT (hc : X.calm = true) : CallR X (.builtin "sum") (rSumT X.K) := by
  intro pins s σ H vs us Q I r h
  obtain ⟨a, ns, rfl, hs, q⟩ := h
  obtain ⟨its, hi, hl⟩ := tupI I hs
  rw [Vals.ref1 r]
  obtain ⟨xs, e⟩ := hi.allInts.items
  have hn : numsOf (intItems xs).toList = ns := by
    rw [← e]
    exact hi.numsOf
  rw [nums_intItems] at hn
  rw [e] at hl
  refine PySem.W.ktm_sumG (I.ok.hd hc) hl fun h' tk t' hk => ?_
  rw [preSum_eq]
  rw [List.take_of_length_le (by simp), hn]
  exact ⟨.int _, H, I.kept hk, ⟨_, rfl⟩, q⟩
theorem maxOf_le (x : Int) (xs : List Int) : PySem.W.maxOf x xs ∈ x :: xs ∧ ∀ y ∈ x :: xs, y ≤ PySem.W.maxOf x xs := by
  induction xs generalizing x with
  | nil => exact ⟨List.mem_cons_self, fun y hy => by simp at hy; subst hy; exact Int.le_refl _⟩
  | cons z zs ih =>
    have e : PySem.W.maxOf x (z :: zs) = PySem.W.maxOf (if PySem.W.DatumOrd.lt x z = true then z else x) zs := rfl
    have d : (PySem.W.DatumOrd.lt x z = true) ↔ x < z := by
      show decide (x < z) = true ↔ x < z
      exact decide_eq_true_iff
    rw [e]
    by_cases c : x < z
    · rw [if_pos (d.mpr c)]
      obtain ⟨h1, h2⟩ := ih z
      refine ⟨List.mem_cons_of_mem _ h1, fun y hy => ?_⟩
      rcases List.mem_cons.mp hy with r | r
      · have := h2 z List.mem_cons_self
        omega
      · exact h2 y r
    · rw [if_neg (fun q => c (d.mp q))]
      obtain ⟨h1, h2⟩ := ih x
      refine ⟨?_, fun y hy => ?_⟩
      · rcases List.mem_cons.mp h1 with r | r
        · rw [r]; exact List.mem_cons_self
        · exact List.mem_cons_of_mem _ (List.mem_cons_of_mem _ r)
      · rcases List.mem_cons.mp hy with r | r
        · have := h2 x List.mem_cons_self
          omega
        · rcases List.mem_cons.mp r with r | r
          · have := h2 x List.mem_cons_self
            omega
          · exact h2 y (List.mem_cons_of_mem _ r)
theorem minOf_le (x : Int) (xs : List Int) : PySem.W.minOf x xs ∈ x :: xs ∧ ∀ y ∈ x :: xs, PySem.W.minOf x xs ≤ y := by
  induction xs generalizing x with
  | nil => exact ⟨List.mem_cons_self, fun y hy => by simp at hy; subst hy; exact Int.le_refl _⟩
  | cons z zs ih =>
    have e : PySem.W.minOf x (z :: zs) = PySem.W.minOf (if PySem.W.DatumOrd.lt z x = true then z else x) zs := rfl
    have d : (PySem.W.DatumOrd.lt z x = true) ↔ z < x := by
      show decide (z < x) = true ↔ z < x
      exact decide_eq_true_iff
    rw [e]
    by_cases c : z < x
    · rw [if_pos (d.mpr c)]
      obtain ⟨h1, h2⟩ := ih z
      refine ⟨List.mem_cons_of_mem _ h1, fun y hy => ?_⟩
      rcases List.mem_cons.mp hy with r | r
      · have := h2 z List.mem_cons_self
        omega
      · exact h2 y r
    · rw [if_neg (fun q => c (d.mp q))]
      obtain ⟨h1, h2⟩ := ih x
      refine ⟨?_, fun y hy => ?_⟩
      · rcases List.mem_cons.mp h1 with r | r
        · rw [r]; exact List.mem_cons_self
        · exact List.mem_cons_of_mem _ (List.mem_cons_of_mem _ r)
      · rcases List.mem_cons.mp hy with r | r
        · have := h2 x List.mem_cons_self
          omega
        · rcases List.mem_cons.mp r with r | r
          · have := h2 x List.mem_cons_self
            omega
          · exact h2 y (List.mem_cons_of_mem _ r)
/-- max(t), min(t) of ints -/
def rMaxT (K : PySem.W.Frag) : List V → Hp → VK → Prop := fun vs H Q =>
  ∃ (a : Addr) (ns : List Int), vs = [V.ref a] ∧ SqT K H a (ns.map V.int) ∧ 0 < ns.length ∧ ∀ m, m ∈ ns → (∀ y ∈ ns, y ≤ m) → Q (.int m) H
def rMinT (K : PySem.W.Frag) : List V → Hp → VK → Prop := fun vs H Q =>
  ∃ (a : Addr) (ns : List Int), vs = [V.ref a] ∧ SqT K H a (ns.map V.int) ∧ 0 < ns.length ∧ ∀ m, m ∈ ns → (∀ y ∈ ns, m ≤ y) → Q (.int m) H
theorem int_of_holds {h : Heap} {v : Value} {x : Int} (H : PySem.W.Holds h v x) : ∃ t, v = Value.int x t := by
  have z := PySem.W.HoldAll.toInts (PySem.W.HoldAll.cons H PySem.W.HoldAll.nil)
  cases z with
  | cons n t z => exact ⟨t, rfl⟩
theorem cr_maxT (hc : X.calm = true) (hu : X.A.units + 64 < cLine) : CallR X (.builtin "max") (rMaxT X.K) := by
  intro pins s σ H vs us Q I r h
  obtain ⟨a, ns, rfl, hs, hne, q⟩ := h
  obtain ⟨its, hi, hl⟩ := tupI I hs
  rw [Vals.ref1 r]
  cases ns with
  | nil => simp at hne
  | cons x xs =>
    refine PySem.W.max_tuple_datum (x := x) (xs := xs) (I.ok.hd hc) hl (PySem.W.HoldAll.of_ints (by simpa using hi)) (by show X.A.units + 1 + 0 < cLine; omega) fun i v h' tk _ hv hk => ?_
    obtain ⟨t, rfl⟩ := int_of_holds hv
    obtain ⟨h1, h2⟩ := maxOf_le x xs
    exact ⟨.int _, H, I.kept hk, ⟨_, rfl⟩, q _ h1 h2⟩
theorem cr_minT (hc : X.calm = true) (hu : X.A.units + 64 < cLine) : CallR X (.builtin "min") (rMinT X.K) := by
  intro pins s σ H vs us Q I r h
  obtain ⟨a, ns, rfl, hs, hne, q⟩ := h
  obtain ⟨its, hi, hl⟩ := tupI I hs
  rw [Vals.ref1 r]
  cases ns with
  | nil => simp at hne
  | cons x xs =>
    refine PySem.W.min_tuple_datum (x := x) (xs := xs) (I.ok.hd hc) hl (PySem.W.HoldAll.of_ints (by simpa using hi)) (by show X.A.units + 1 + 0 < cLine; omega) fun i v h' tk _ hv hk => ?_
    obtain ⟨t, rfl⟩ := int_of_holds hv
    obtain ⟨h1, h2⟩ := minOf_le x xs
    exact ⟨.int _, H, I.kept hk, ⟨_, rfl⟩, q _ h1 h2⟩
end
end HL

namespace HL
open PySem PySem.Spec PyProof.Rows L2
open AutoSeq1 (wpAny_loadPart')
/-! enumerate(t), t a tuple -/
abbrev oIt (t : Addr) : Obj := { cls := .type "tuple_iterator", data := .fields #[.ref t, .int 0 0] }
abbrev oEn (i : Addr) : Obj := { cls := .type "enumerate", data := .fields #[.none, .bool false, .ref i, rawInt 0, .none, .none] }
theorem meets_enumT (t : Addr) (items : Array Value) (o : Obj) (tyE : ∀ h : Heap, h.get? t = some o → h.IsTuple t items) :
    Meets (Builtin.«enumerate.__new__» ⟨[.type "enumerate", .ref t], []⟩)
      (fun _ R s => s.heap.get? t = some o ∧ R (.ok (.ret (.ref (s.heap.push (oIt t)).objs.size))) { s with heap := (s.heap.push (oIt t)).push (oEn s.heap.objs.size) }) :=
  .of_wp fun prog w A R s h => by
    obtain ⟨hp, g, d, tk, os⟩ := s
    obtain ⟨hl, h⟩ := h
    have hsub := sub_enumerate
    have hL : Heap.IsTuple (Shared.heap ⟨hp, g, d, tk, os⟩) t items := tyE _ hl
    wp_walk using wpAny_loadPart' hl
    refine wpAny_stack_any fun stk => wpAny_pure ?_
    split
    · rename_i c _ _ _ _ _
      cases (c == Value.type "enumerate") <;> (wp_walk using wpAny_loadPart' hl, wpAny_pyIter_tuple hL; exact ⟨_, rfl, h⟩)
    · wp_walk using wpAny_loadPart' hl, wpAny_pyIter_tuple hL
      exact ⟨_, rfl, h⟩
theorem call_enumT {prog : Program} {w : World} {A : Around} {E : Value → Shared → Prop} {s : Shared} {t : Addr} {items : Array Value} {Q : Value → Shared → Prop} (hL : s.heap.IsTuple t items)
    (h : ∀ h', IsEnum h' (s.heap.objs.size + 1) s.heap.objs.size 0 .none → h'.IsTupleIter s.heap.objs.size t 0 →
      (∀ b o, s.heap.get? b = some o → h'.get? b = some o) → Q (.ref (s.heap.objs.size + 1)) { s with heap := h' }) :
    wpAny (model prog w) A (call (.type "enumerate") [.ref t]) Q E s := by
  obtain ⟨o, hl, hc, n, hd⟩ := hL
  refine callType_new F.called_enumerate (by decide) (F.typeCall_enumerate_1 _) (F.newCall_enumerate_1 _) (fun obj => F.args_object_init_2 obj _) F.entry_enumerate_new
    (meets_enumT t items o fun h' e => ⟨o, e, hc, n, hd⟩) ⟨hl, ?_⟩
  have hz : (s.heap.push (oIt t)).objs.size = s.heap.objs.size + 1 := Heap.size_push ..
  show _ ∧ _
  rw [hz]
  have hen : IsEnum ((s.heap.push (oIt t)).push (oEn s.heap.objs.size)) (s.heap.objs.size + 1) s.heap.objs.size 0 .none := by
    have q := Heap.get?_push_size (s.heap.push (oIt t)) (o := oEn s.heap.objs.size) rfl
    rw [hz] at q
    exact q
  exact ⟨⟨_, hen, rfl⟩, h _ hen ⟨_, Heap.get?_push_of_some _ (Heap.get?_push_size _ rfl), rfl, rfl⟩ fun b o x => Heap.get?_push_of_some _ (Heap.get?_push_of_some _ x)⟩
theorem enum_endT {prog : Program} {w : World} {A : Around} {E : Value → Shared → Prop} {s : Shared} {e it t : Addr} {i : Nat} {items : Array Value} {old : Value} {Q : Option Value → Shared → Prop}
    (hh : A.handled = none) (hen : IsEnum s.heap e it i old) (hit : s.heap.IsTupleIter it t i) (hl : s.heap.IsTuple t items) (hx : items[i]? = none)
    (wish : ∀ h', Heap.ExtBut it s.heap h' → Q none { s with heap := h' }) : wpAny (model prog w) A (pyNext (.ref e)) Q E s := by
  have tyE : s.TypeIs (.ref e) "enumerate" := ⟨_, hen, rfl⟩
  unfold pyNext
  refine wpAny_bind (wpAny_attempt (wpAny_callSpecial?_slot (name := Str.ofString "__next__") tyE F.slot_enumerate_next (wpAny_call_entry F.slot_enumerate_next tyE F.entry_enumerate_next ?_ (F.args_enumerate_next_1 _))))
  show wpAny _ _ (field (.ref e) 2 >>= _) _ _ _
  refine wpAny_bind (wpAny_field hen rfl (x := .ref it) rfl (wpAny_bind (wpAny_nextOf_tuple_end hh hit hl hx fun h' x hen' hx' => ?_)))
  obtain ⟨o, ho, hc⟩ := hx'
  exact wpAny_bind (wpAny_isInstance (T := "StopIteration") (b := true) ⟨o, ho, hc⟩ isSubtype_stop (wpAny_pure (wish _ hen')))
/-- the tuple at a, each item in a new pair -/
def IteT (K : PySem.W.Frag) (a : Addr) : It where
  go := fun i H => ∃ (xs : List V) (x : V), SqT K H a xs ∧ xs[i]? = some x
  yld := fun i H v H' => ∃ T x, v = .ref T ∧ H T = none ∧ H' = upd H T (.tup [.int (i : Nat), x]) ∧ ∀ xs, SqT K H a xs → xs[i]? = some x
  stop := fun i H => ∃ xs : List V, SqT K H a xs ∧ xs.length ≤ i
theorem turn_enumT {P : Program} {w : World} {K : PySem.W.Frag} {elts : List Expr} {kk : Nat} {tpos : Pos} (a e it : Addr) (hai : a ≠ it) :
    Turn P w K (.Tuple elts kk tpos) (IteT K a) [e, it] e (fun i h => (∃ old, IsEnum h e it ((i : Nat) : Int) old) ∧ h.IsTupleIter it a i ∧ e ≠ it ∧ e ≠ a) where
  mem := by simp
  obj := fun i h sta b hb => by
    obtain ⟨⟨old, hen⟩, ⟨o, ho, hc, hd⟩, _⟩ := sta
    have e' : b = e ∨ b = it := by simpa using hb
    rcases e' with z | z
    · rw [z]
      exact ⟨_, hen, fun v q => nomatch q⟩
    · rw [z]
      exact ⟨o, ho, fun v q => by rw [hd] at q; cases q⟩
  keep := fun i h h' sta k => by
    obtain ⟨⟨old, hen⟩, hi, hne⟩ := sta
    exact ⟨⟨old, k e (by simp) _ hen⟩, hi.at fun o q => k it (by simp) o q, hne⟩
  item := by
    intro X hP hw hK hc i pins s σ H E I fpk sta hg
    subst hP hw hK
    obtain ⟨⟨old, hen⟩, hit, hne, hea⟩ := sta
    obtain ⟨xs, x, hq, hx⟩ := hg
    obtain ⟨its, rv, ⟨ot, hot, hct, nt, hdt⟩, hz⟩ := I.tuple hq
    have tyE : s.heap.IsTuple a its.toArray := ⟨ot, hot, hct, nt, hdt⟩
    obtain ⟨u, hu, ru⟩ := rv.get hx
    have hlt : i < its.toArray.size := by
      have := (List.getElem?_eq_some_iff.mp hu).1
      simpa using this
    have elt : e < s.heap.objs.size := Heap.lt_size hen
    have hil : it < s.heap.objs.size := by
      obtain ⟨_, q, _⟩ := hit
      exact Heap.lt_size q
    refine wpAny_pyNext_enum_itemD (Draws.tuple (A := X.A.in1) (I.ok.hd hc) it a hai its.toArray) hen ⟨hit, tyE⟩ hlt hne (by simp [hne, hea]) fun z h' tk hz' ho hit' hTn hsz kep => ?_
    have ez : z = u := by
      have q : its[i]? = some z := by simpa using hz'
      rw [hu] at q
      exact (Option.some.inj q).symm
    subst ez
    refine ⟨_, rfl, wpAny_letOwnedTupleGo_enum (s := { s with heap := h', toks := tk + 1 }) ho fun h'' hen' smb => ?_⟩
    have hT2 : h''.get? s.heap.objs.size = some { cls := .type "tuple", data := .seq #[.int i tk, z] } := (smb.2 _ (Nat.ne_of_gt elt)).trans hTn
    have new : ObjOk X.prog X.w (upd H s.heap.objs.size (.tup [.int (i : Nat), x])) h'' s.heap.objs.size (.tup [.int (i : Nat), x]) :=
      ⟨by show 2 ≤ sizeLine; decide, [.int i tk, z], .cons ⟨_, rfl⟩ (.cons ru .nil), ⟨_, hT2, rfl, _, rfl⟩⟩
    have I1 : Inv X pins σ (upd H s.heap.objs.size (.tup [.int (i : Nat), x])) { s with heap := h'', toks := tk + 1 } :=
      I.turnedNew (ch := [e, it]) (fun b ob hb q => (smb.2 b (fun z => hb (by simp [z]))).trans (kep b ob (fun z => hb (by simp [z])) (fun z => hb (by simp [z])) q)) fpk (Nat.le_refl _) new
    refine ⟨.ref s.heap.objs.size, _, I1, rfl, ⟨_, x, rfl, I.hok.fresh (Nat.le_refl _), rfl, fun ys hy => ?_⟩, ⟨⟨z, ?_⟩, hit'.1.at fun o q => (smb.2 it (Ne.symm hne)).trans q, hne, hea⟩, fun b hb => ?_⟩
    · rw [I.tuple_inj hy hq]
      exact hx
    · have eqi : ((i + 1 : Nat) : Int) = (i : Int) + 1 := by omega
      rw [eqi]
      exact hen'
    · have hb' : b < s.heap.objs.size := by
        have e' : b = e ∨ b = it := by simpa using hb
        rcases e' with z | z
        · rw [z]
          exact elt
        · rw [z]
          exact hil
      rw [upd_ne (Nat.ne_of_lt hb')]
      exact (fpk b hb).1
  done := by
    intro X hP hw hK hc i pins s σ H E I fpk sta hg
    subst hP hw hK
    obtain ⟨⟨old, hen⟩, hit, hne, hea⟩ := sta
    obtain ⟨xs, hq, hx⟩ := hg
    obtain ⟨its, rv, ⟨ot, hot, hct, nt, hdt⟩, hz⟩ := I.tuple hq
    obtain ⟨p0, p1, p2, p3, p4, p5⟩ := fpk it (by simp)
    have hl := rv.length
    refine enum_endT (I.ok.hd hc) hen hit ⟨ot, hot, hct, nt, hdt⟩ (by simp; omega) fun h' eb => ⟨rfl, I.turned (t' := s.toks) (fun b o hb q => eb b o hb q) p0 p1 p3 p4 p5⟩
  self := fun A i s Q E sta h => let ⟨⟨_, hen⟩, _⟩ := sta; wpAny_pyIter_enum hen h
def iEnumT (K : PySem.W.Frag) (ta : TA) : TI := fun σ H R => ta σ H fun vs H1 => ∃ a xs, vs = [.ref a] ∧ SqT K H1 a xs ∧ R (IteT K a) H1
theorem pi_enumT {X : Cx} {e : Expr} {ta : TA} {p pos tpos : Pos} {elts : List Expr} {kk : Nat} (hg : Gl X "enumerate") (hm : X.mg "enumerate" = none) (ha : PA X [e] ta)
    (hs : starEach [e] X.env = [(false, eval e X.env)] := by rfl) : PI X (.Tuple elts kk tpos) (.Call (.Name "enumerate" p) [e] [] pos) (iEnumT X.K ta) := by
  refine ⟨fun pins s σ H R I h => ?_⟩
  refine Call_ (ld_blt I hg hm boot_enumerate (PyProof.Rows.callWith_type1 (thn (ha.run pos pins s σ H _ I h) fun us sA ⟨vs, H1, I1, r1, q1⟩ => ?_) hs rfl))
  obtain ⟨a, xs, ex, hq, q⟩ := q1
  subst ex
  rw [Vals.ref1 r1]
  obtain ⟨its, rv, ⟨ot, hot, hct, nt, hdt⟩, hz⟩ := I1.tuple hq
  have hla : a < sA.heap.objs.size := Heap.lt_size hot
  refine call_enumT (items := its.toArray) ⟨ot, hot, hct, nt, hdt⟩ fun h' hen hit kep => wpAny_pyIter_enum hen ?_
  have JB : Inv X pins σ H1 { sA with heap := h' } := I1.kept (t' := sA.toks) kep
  refine ⟨sA.heap.objs.size + 1, [sA.heap.objs.size + 1, sA.heap.objs.size], _, _, H1, rfl, JB, turn_enumT a (sA.heap.objs.size + 1) sA.heap.objs.size (Nat.ne_of_lt hla),
    ⟨⟨.none, hen⟩, hit, Nat.succ_ne_self _, Nat.ne_of_gt (Nat.lt_succ_of_lt hla)⟩, fun b hb => ?_, q⟩
  have e' : b = sA.heap.objs.size + 1 ∨ b = sA.heap.objs.size := by simpa using hb
  have hle : sA.heap.objs.size ≤ b := by
    rcases e' with z | z
    · rw [z]
      exact Nat.le_add_right _ _
    · rw [z]
      exact Nat.le_refl _
  exact I1.fpOk hle (I1.hok.fresh hle)
end HL

namespace HL
open PySem PySem.Spec PyProof.Rows L2
open AutoSeq1 (wpAny_loadPart')
/-! t * k, k from 1 on: once is the tuple itself -/
theorem tuple_mul1 (l : Addr) (items : Array Value) (n : Nat) (dd : Option Addr) (sl : Array (Option Value)) (u : Tok) :
    Meets (Builtin.«tuple.__mul__» ⟨[.ref l, .int 1 u], []⟩)
      (fun _ R s => s.heap.get? l = some { cls := .type "tuple", dict := dd, data := .seq items n, slots := sl } ∧ R (.ok (.ret (.ref l))) s) :=
  .of_wp fun prog w A R s h => by
    obtain ⟨hp, g, d, tk, os⟩ := s
    obtain ⟨hl, h⟩ := h
    have f1 := AutoSeq1.idx_int
    have ht : Shared.TypeIs ⟨hp, g, d, tk, os⟩ (.ref l) "tuple" := ⟨_, hl, rfl⟩
    wp_walk using wpAny_loadPart' hl
    repeat (first
      | (refine wpAny_ite_false (by decide) ?_; wp_walk using wpAny_loadPart' hl)
      | (refine wpAny_ite_true (by cases items.isEmpty <;> decide) ?_; wp_walk using wpAny_loadPart' hl)
      | (refine wpAny_typeOf ht ?_; wp_walk using wpAny_loadPart' hl)
      | (refine wpAny_bind (wpAny_typeOf ht ?_); wp_walk using wpAny_loadPart' hl))
    exact ⟨_, rfl, h⟩
def rRepA (K : PySem.W.Frag) : R2 := fun x y H Q => ∃ l k xs, x = .ref l ∧ y = .int k ∧ SqT K H l xs ∧ xs ≠ [] ∧ 1 ≤ k ∧ k ≤ 1000 ∧ xs.length ≤ 1000 ∧
  (k = 1 → Q (.ref l) H) ∧ (k ≠ 1 → ∀ p, H p = none → Q (.ref p) (upd H p (.tup (List.replicate k.toNat xs).flatten)))
theorem op_repA {X : Cx} : OpR X (binaryOp .Mult) (rRepA X.K) := by
  intro pins s σ H x y v u Q I rx ry h
  obtain ⟨l, k, xs, rfl, rfl, hT, hne, h1, h2, hz, q1, q2⟩ := h
  by_cases hk : k = 1
  · subst hk
    have rx' := rx
    cases rx
    obtain ⟨t, rfl⟩ := ry
    obtain ⟨its, r, ⟨⟨cl, dd, dat, sl⟩, ho, hc, n, hd⟩, _⟩ := I.tuple hT
    simp only at hc hd
    subst hc hd
    exact wpAny_binaryOp_repeat_ref (T := "tuple") (U := "int") (by decide) ⟨_, ho, rfl⟩ (fun s' => typeIs_int s' 1 t) noFill_tuple_mul F.fills_int_mul F.slot_int_rmul repeat_tuple F.slot_int_index.lookup
      (call_meets F.slot_int_rmul (typeIs_int s 1 t) F.entry_int_rmul (F.args_int_rmul_2 _ _) (int_rmul_tuple 1 t l its.toArray n dd sl)
        ⟨ho, rfl, ⟨_, ho, rfl⟩, call_meets F.slot_tuple_mul ⟨_, ho, rfl⟩ F.entry_tuple_mul (F.args_tuple_mul_2 _ _) (tuple_mul1 l its.toArray n dd sl t) ⟨ho, ⟨.ref l, H, I, rfl, q1 rfl⟩⟩⟩)
  · exact op_repT pins s σ H _ _ v u Q I rx ry ⟨l, k, xs, rfl, rfl, hT, hne, by omega, h2, hz, q2 hk⟩
end HL

namespace HL
open PySem PySem.Spec PyProof.Rows L2
/-! several except clauses, each with a name -/
/-- behind a suite the name's slot is empty -/
abbrev offE (i : Nat) (D : Ends) : Ends := { nx := fun σ' H' => D.nx (σ'.set i none) H', rt := D.rt, bk := fun σ' H' => D.bk (σ'.set i none) H', ct := fun σ' H' => D.ct (σ'.set i none) H' }
def wManyA (K : PySem.W.Frag) (i : Nat) (Wout : WX) (D : Ends) : List (Value × (Addr → Value → Option Addr → TS)) → WX
  | [] => Wout
  | (c, ts) :: r => fun cls d σ H => ∃ b, PySem.W.exmOne K cls c = some b ∧ (b = true → ∀ a, H a = none → ts a cls d (offE i D) (σ.set i (some (.ref a))) H) ∧ (b = false → wManyA K i Wout D r cls d σ H)
inductive HdsA (X : Cx) (n : Str) : List ExceptHandler → List (Value × (Addr → Value → Option Addr → TS)) → Prop
  | nil : HdsA X n [] []
  | cons {x : Str} {c : Value} {ts : Addr → Value → Option Addr → TS} {b₀ : Stmt} {suite : List Stmt} {np pos' : Pos} {hds : List ExceptHandler} {l : List (Value × (Addr → Value → Option Addr → TS))} (hc : Names X x c)
      (hsu : ∀ (a : Addr) (oe : Obj) (cls : Value) (d : Option Addr) (pn : List (Addr × Obj)), Zc cls d oe → (∃ vs, oe.data = .fields vs) → PSs (X.suite a ((a, oe) :: pn)) (b₀ :: suite) (ts a cls d)) (r : HdsA X n hds l) :
      HdsA X n (.ExceptHandler (some (.Name x np)) (some n) (b₀ :: suite) pos' :: hds) ((c, ts) :: l)
section
variable {X : Cx} {n : Str} {i : Nat} {body : List Stmt} {h₀ : ExceptHandler} {hds : List ExceptHandler} {l : List (Value × (Addr → Value → Option Addr → TS))} {pos : Pos} {tb : WX → TS} {Wout : WX}
theorem ps_try_manyA (hs : X.stack = X.env :: X.outer) (hf : X.env.frame = some X.env.locals) (hN : X.N.Nodup) (hi : X.N[i]? = some n) (hln : X.env.kindOf n = some .local) (tk : Takes X Wout)
    (hb : ∀ (W : WX) (pn : List (Addr × Obj)) (xe : Value → Shared → Prop), Takes (X.tr pn xe) W → PassesOwn (model X.prog X.w) X.A X.env xe → PSs (X.tr pn xe) body (tb W)) (hh : HdsA X n (h₀ :: hds) l) :
    PS X (.Try body (h₀ :: hds) [] [] pos) (fun D σ H => tb (wManyA X.K i Wout D l) D σ H) := by
  refine ⟨fun pins s σ H D I hTB => ?_⟩
  have okI := I.ok
  have frA : X.A.frames = some (X.env :: X.outer) := by rw [okI.frames, hs]
  have locN : Loc X.env.scope n := .inl hln
  refine wpAny_Try_except (wpAny_mono ((hb (wManyA X.K i Wout D l) (X.pn ++ pins) (fun e sa => wpAny (model X.prog X.w) X.A (noteFrame e X.env) (fun _ sb => wpAny (model X.prog X.w) X.A (setFlight e none) (fun _ sc =>
    wpAny (model X.prog X.w) X.A (handleBy e X.env (h₀ :: hds)) (SP X pins D) X.xe sc) X.xe sb) X.xe sa) (fun u s' xx => ?_) PassesOwn.looking).run [] s σ H D (I.toTry _) hTB) (fun f sq hsp => ?_) (fun e sq he => he))
  · obtain ⟨a, B, sI, pins', σ', H', cls, d, rfl, J', nb, up, sky, na, os, ag, wsh⟩ := xx
    have J : Inv X pins σ' H' sI := J'.ofTry okI
    have skyE : Sky B (X.env :: X.outer) a (Zc cls d) X.env.locals s'.heap := by rw [← hs]; exact sky
    show wpAny (model X.prog X.w) X.A (noteFrame (.ref a) X.env) _ _ _
    refine Sky.land Zc.steady frA hf skyE fun hC flC upC => ?_
    have JC : Inv X pins σ' H' { s' with heap := hC } := J.landed nb flC.1 (up.trans upC) os ag
    obtain ⟨oC, vC, heC, hzC, hdC⟩ := flC.there
    have notFr : a ∉ frs (X.env :: X.outer) := fun hm => by
      obtain ⟨_, o', e', hnf⟩ := flC.2.2.1.mem hm
      rw [heC] at e'
      cases e'
      exact hnf _ hdC
    have nL : a ≠ X.env.locals := fun z => notFr (List.mem_filterMap.mpr ⟨X.env, List.mem_cons_self, by rw [hf, z]⟩)
    have nF : a ∉ X.fs := fun hm => by
      obtain ⟨e, he, q⟩ := List.mem_filterMap.mp hm
      exact notFr (List.mem_filterMap.mpr ⟨e, List.mem_cons_of_mem _ he, q⟩)
    have SC := JC.suite heC hdC na nL nF
    have go : ∀ {hd2 : List ExceptHandler} {l2 : List (Value × (Addr → Value → Option Addr → TS))}, HdsA X n hd2 l2 → wManyA X.K i Wout D l2 cls d σ' H' → wpAny (model X.prog X.w) X.A (handleBy (.ref a) X.env hd2) (SP X pins D) X.xe { s' with heap := hC } := by
      intro hd2 l2 hk
      induction hk with
      | nil =>
        intro wn
        refine wpAny_handleBy_nil ?_
        obtain ⟨k1, k2, k3, oe, vs, T, oT, ts', he, hz, hd, h1, hr⟩ := id flC
        unfold PySem.passOn
        refine wpAny_bind (wpAny_field he hd h1 ?_)
        rw [if_neg (show ¬ ((Value.ref T == Value.none) = true) from by simp)]
        have fin : wpAny (model X.prog X.w) X.A (setFlight (.ref a) X.env.frame) (fun _ sd => wpAny (model X.prog X.w) X.A (throw (.ref a) : Sem Flow) (SP X pins D) X.xe sd) X.xe { s' with heap := hC } := by
          rw [hf]
          refine HandSPX.setFlight_upZ flC fun hD hhD upD => wpAny_throw (tk _ _ ?_)
          exact ⟨a, B, sI, pins, σ', H', cls, d, rfl, J, nb, (up.trans upC).trans upD, .inr (.inr (by rw [hs]; exact hhD)), na, os, ag, wn⟩
        first
          | exact wpAny_bind (wpAny_pure (wpAny_bind fin))
          | exact wpAny_bind fin
      | @cons x c ts b₀ suite np pos' hd3 l3 hc hsu r ih =>
        intro wn
        obtain ⟨b, hb1, hyes, hno⟩ := wn
        refine wpAny_handleBy_cons (codeAny_handlers_test ?_) (by intro q; cases q)
        have LT : PySem.W.Looks (model X.prog X.w) hC (typeOf (.ref a)) cls := fun A Q E s k q => wpAny_typeOf_ref (k _ _ heC) (by rw [hzC.1]; exact q)
        have LM := PySem.W.exm_one (M := model X.prog X.w) (JC.kIn) LT hb1
        have look : ∀ {Q : Value → Shared → Prop} {E : Value → Shared → Prop}, Q c { s' with heap := hC } → wpAny (model X.prog X.w) (X.A.mark (some (.ref a))) (eval (.Name x np) X.env) Q E { s' with heap := hC } := fun {Q E} q => by
          obtain ⟨hg, hdbg, hm | ⟨hm, hv, hnn⟩⟩ := hc
          · exact ld_glob (X := X.suite a ((a, oC) :: (X.pn ++ pins))) SC hg hm q hdbg
          · exact ld_blt (X := X.suite a ((a, oC) :: (X.pn ++ pins))) SC hg hm hv q hnn hdbg
        refine look (LM.here ?_)
        cases b with
        | false =>
          show wpAny _ X.A (handleBy (.ref a) X.env hd3) _ _ _
          exact ih (hno rfl)
        | true =>
          refine codeAny_handlers_suite_as (HandSPX.lands_againZ flC fun hD flD upD => ?_)
          have JD : Inv X pins σ' H' { s' with heap := hD } := J.landed nb flD.1 ((up.trans upC).trans upD) os ag
          obtain ⟨oD, vD, heD, hzD, hdD⟩ := flD.there
          have SD := JD.suite heD hdD na nL nF
          refine store_ok (X := X.suite a ((a, oD) :: (X.pn ++ pins))) (v := .ref a) SD hN hi locN rfl (fun sE SE => ?_) (.inr hln)
          refine wpAny_mono ((hsu a oD cls d (X.pn ++ pins) hzD ⟨_, hdD⟩).run [] sE _ H' _ SE (hyes rfl a na)) (fun f sG hsp => ?_) (fun _ _ z => False.elim z)
          have off : ∀ {σG : L2.St} {HG : Hp} {Q : Shared → Prop}, Inv (X.suite a ((a, oD) :: (X.pn ++ pins))) [] σG HG sG → (∀ sH, Inv X pins (σG.set i none) HG sH → Q sH) →
              wpAny (model X.prog X.w) X.A (do bindName X.env n .none; unbindBehindTheSuite X.env n pos') (fun _ sH => Q sH) X.xe sG := fun {σG HG Q} SG hq => gone_ok (SG.unsuite okI) hN hi hln hq
          cases f with
          | ret u =>
            obtain ⟨vG, σG, HG, SG, rG, qG⟩ := hsp
            exact off SG fun sH JH => ⟨_, _, _, JH, rG, qG⟩
          | next =>
            obtain ⟨σG, HG, SG, qG⟩ := hsp
            exact off SG fun sH JH => ⟨_, _, JH, qG⟩
          | brk =>
            obtain ⟨σG, HG, SG, qG⟩ := hsp
            exact off SG fun sH JH => ⟨_, _, JH, qG⟩
          | cont =>
            obtain ⟨σG, HG, SG, qG⟩ := hsp
            exact off SG fun sH JH => ⟨_, _, JH, qG⟩
    exact go hh wsh
  · cases f with
    | ret u =>
      obtain ⟨v, σ', H', J', r, q⟩ := hsp
      exact ⟨v, σ', H', J'.ofTry okI, r, q⟩
    | next =>
      obtain ⟨σ', H', J', q⟩ := hsp
      exact wpAny_execs_nil ⟨σ', H', J'.ofTry okI, q⟩
    | brk =>
      obtain ⟨σ', H', J', q⟩ := hsp
      exact ⟨σ', H', J'.ofTry okI, q⟩
    | cont =>
      obtain ⟨σ', H', J', q⟩ := hsp
      exact ⟨σ', H', J'.ofTry okI, q⟩
end
end HL

namespace HL
open PySem PySem.Spec PyProof.Rows L2
open LamX (CodeO Tabs TabB ExtN LamS lamEnv lamCx lam_start2 lam_make2 run_ofS tLam)
/-! what a def got is asked, its own slots known where that raises -/
/-- the asking def's context, entered at s -/
abbrev gCx (X : Cx) (Ng : List Str) (q : Str) (sg : Scope) (g : Addr) (cd : Value) (s : Shared) (H : Hp) : Cx := cxOf C8.CX0 X.prog X.w X.K X.mg X.base Ng q sg g cd X.A X.stack s H C8.E0
/-- the lambda that was made -/
abbrev lamO (X : Cx) (ps : Arguments) (b : Expr) (sc : Scope) (pm : Value) (c' : Addr) (ct : Value) : Obj := PySem.W.kla_obj "<lambda>" (X.env.qual ++ "<lambda>") ps b sc (cloFrom X.env.cells sc.names []) pm c' ct
theorem act_at {X : Cx} {pins : List (Addr × Obj)} {σ : L2.St} {H : Hp} {s : Shared} {Ng : List Str} {q : Str} {sg : Scope} {g f c' : Addr} {cd pm ct : Value} {ps : Arguments} {b : Expr} {sc : Scope} {k i : Nat} {a : Str} {pn : List (Addr × Obj)} {xe : Value → Shared → Prop} {W : WX} {E : XK} {tb : TE} {p1 p2 : Pos} {σ0 : L2.St}
    (I : Inv X pins σ H s) (L : LamS X.env.scope sc) (hf : s.heap.get? f = some (lamO X ps b sc pm c' ct)) (hn : H f = none) (hfr : f ∉ frs X.stack)
    (hb : bindArgs (PySem.W.kla_fn "<lambda>" (X.env.qual ++ "<lambda>") ps b sc (cloFrom X.env.cells sc.names []) pm (.ref c') ct) ⟨[], []⟩ = pure [])
    (tk : Takes ((gCx X Ng q sg g cd s H).tr pn xe) W) (hW : ∀ cls d H', E cls d H' → W cls d σ0 H') (hr : Room (k + 1) (X.A.deeper (envOfC q sg s.heap.objs.size g cd)))
    (hbody : ∀ (A : Around) (o : List Env) (s : Shared) (H : Hp), Room k (A.deeper (lamEnv X sc s.heap.objs.size f c')) → PE (lamCx X A o s H E sc f c') b tb)
    (hN : Ng[i]? = some a) (hv : Vis sg a) (d1 : (a == ("__debug__" : Str)) = false) (d2 : (a == ("__classdict__" : Str)) = false) :
    PE ((gCx X Ng q sg g cd s H).tr pn xe) (.Call (.Name a p1) [] [] p2) (fun σZ HZ Q => σZ = σ0 ∧ σZ[i]? = some (some (.ref f)) ∧ HZ c' = some (CodeO c' (X.env.qual ++ "<lambda>")) ∧ tb σ HZ Q) := by
  refine ⟨fun pz sz σz hz Qz J ⟨eσ, h1, h2, h3⟩ => ?_⟩
  have nm := (pe_var (pos := p1) (i := i) hN hv d1 d2).run pz sz σz hz (fun v H1 => v = .ref f ∧ H1 = hz) J ⟨_, h1, rfl, rfl⟩
  refine wpAny_Call_Name_kw (thn nm ?_)
  rintro u s1 ⟨v, H1, J1, r1, ⟨ev, eh⟩⟩
  subst ev
  rw [eh] at J1
  obtain rfl : u = Value.ref f := r1
  have o1 : s1.heap.get? f = some (lamO X ps b sc pm c' ct) := J1.base.keep f _ hf hn hfr (fun y => List.not_mem_nil (show f ∈ ([] : List Addr) from y))
  have go : codeAny (model X.prog X.w) (X.A.deeper (envOfC q sg s.heap.objs.size g cd)) (.call (.ref f) ⟨[], []⟩) (CR (L2.CX X.prog X.w) (envOfC q sg s.heap.objs.size g cd :: X.stack) X.prog X.w hz s1 Qz E) s1 := by
    obtain ⟨⟨oc, vs, t, ho, hd, hc⟩, _, _⟩ := J1.hok c' _ h2
    refine PySem.W.kla_callFunE hr.depth o1 rfl L.co L.gen rfl ⟨c', oc, vs, t, rfl, ho, hd, hc⟩ ?_
    rw [hb]
    refine wpAny_pure (wpAny_newFunctionEnv (fun y hy => (L.own y hy).2) (fun y hy => absurd hy (by simp)) (fun h1' hns hsb => ⟨J1.nolimit.fresh _ hsb, ?_⟩) L.kind)
    show codeAny _ _ (.expr b (lamEnv X sc s1.heap.objs.size f c')) _ _
    have st : Inv (lamCx X (X.A.deeper (envOfC q sg s.heap.objs.size g cd)) (envOfC q sg s.heap.objs.size g cd :: X.stack) s1 hz E sc f c') [] σ hz { s1 with heap := h1', toks := s1.toks + ([] : List (Str × Value)).length } :=
      lam_start2 I L J1.env0 hr.hd J1.base hns (fun b' o' e' => hsb.extBut b' o' (Nat.ne_of_lt (Heap.lt_size e')) (Heap.get?_push_of_some _ e'))
    refine PySem.W.kla_codeExpr (wpAny_mono ((hbody _ _ s1 hz (hr.deeper _)).run [] _ _ hz Qz st h3) ?_ (fun _ _ x => x))
    rintro v' s' ⟨w', H', J', rv, qv⟩
    exact ⟨w', H', J'.os, J'.bare, J'.base, J'.hok, rv, qv⟩
  refine PySem.W.callWith_F0 ⟨_, _, _, _, o1⟩ (wpAny_call (codeAny_mono go ?_))
  intro r s' hq
  cases r with
  | error e =>
    refine tk e s' (XE.of_call J1 (fun cls d H' hE => ?_) hq)
    rw [eσ]
    exact hW cls d H' hE
  | ok fl =>
    cases fl with
    | ret u => exact J1.after hq
    | next => cases hq
    | brk => cases hq
    | cont => cases hq
/-- the def that asks: σ0 its slots where it asks -/
def AsksOf (X : Cx) (Ng : List Str) (x : Str) (sg : Scope) (g : Addr) (cd : Value) (bg : List Stmt) (a : Str) (q : Str) (TT : (XK → Hp → VK → Prop) → Hp → VK → Prop) : Prop :=
  ∀ (f c' : Addr) (s : Shared) (H : Hp) (Q : VK) (tl : XK → Hp → VK → Prop),
    (∀ (σ0 : L2.St) (W : WX) (pn : List (Addr × Obj)) (xe : Value → Shared → Prop) (E : XK) (p1 p2 : Pos), Takes ((gCx X Ng x sg g cd s H).tr pn xe) W → (∀ cls d H', E cls d H' → W cls d σ0 H') →
      PE ((gCx X Ng x sg g cd s H).tr pn xe) (.Call (.Name a p1) [] [] p2) (fun σZ HZ Q => σZ = σ0 ∧ σZ[0]? = some (some (.ref f)) ∧ HZ c' = some (CodeO c' q) ∧ tl E HZ Q)) →
    H c' = some (CodeO c' q) → TT tl H Q → ∃ t, PSs (gCx X Ng x sg g cd s H).nox bg t ∧ t { nx := fun _ H' => Q .non H', rt := Q } (L2.start Ng [.ref f]) H
theorem pe_askcall {X : Cx} {T : List (Addr × Str)} {TT : (XK → Hp → VK → Prop) → Hp → VK → Prop} {x a : Str} {g c P : Addr} {k : Nat} {pg : Arguments} {bg : List Stmt} {sg : Scope} {dV kV doc pm cdv ct oc : Value} {an od : Option Addr} {osl : Array (Option Value)} {Ng : List Str}
    {ps : Arguments} {b : Expr} {sc : Scope} {t : XK → TE} {p lp pos : Pos} (hg : Gl X x) (hm : X.mg x = some (.ref g)) (hk : PySem.W.keepIn X.K (.ref g) = true)
    (lk : X.K.lookup g = some ⟨oc, od, .func (PySem.W.fnOf x x pg bg sg dV kV doc pm an cdv ct), osl⟩) (hcg : PySem.W.codeIn X.K cdv x = true) (hbi : L2.Binds X.K (PySem.W.fnOf x x pg bg sg dV kV doc pm an cdv ct) [a] []) (Sg : FnScope Ng [a] sg) (hN : Ng[0]? = some a) (hv : Vis sg a)
    (hG : AsksOf X Ng x sg g cdv bg a (X.env.qual ++ "<lambda>") TT) (TB : TabB X.base X.mg c P) (hcode : X.env.code = .ref c) (hT : (P, X.env.qual ++ "<lambda>") ∈ T) (hu : ∀ p ∈ T, p.1 = P → p.2 = X.env.qual ++ "<lambda>") (hr : Room (k + 2) X.A) (L : LamS X.env.scope sc) (hdef : defaultsOf ps X.env = ([], []))
    (hb : ∀ (q : Str) (cl : List (Str × Addr)) (pm cv ctv : Value), bindArgs (PySem.W.kla_fn "<lambda>" q ps b sc cl pm cv ctv) ⟨[], []⟩ = pure [])
    (hbody : ∀ (A : Around) (o : List Env) (s : Shared) (H : Hp) (E : XK) (f c' : Addr), Room k (A.deeper (lamEnv X sc s.heap.objs.size f c')) → PE (lamCx X A o s H E sc f c') b (t E))
    (d0 : (x == ("__debug__" : Str)) = false := by decide) (d1 : (a == ("__debug__" : Str)) = false := by decide) (d2 : (a == ("__classdict__" : Str)) = false := by decide) :
    PE X (.Call (.Name x p) [.Lambda ps b sc lp] [] pos) (tLam T TT t) := by
  refine ⟨fun pins s σ H Q I ⟨hTt, h⟩ => wpAny_Call_Name_kw (ld_glob I hg hm (PySem.W.callWith_K (h₀ := X.base) I.ok.mod.kin hk ?_ (by rfl) (by rfl)) d0)⟩
  show wpAny _ _ (spliced ((false, eval (.Lambda ps b sc lp) X.env) :: backTo pos (starEach [] X.env))) _ _ s
  refine Calls.spliced_cons (lam_make2 I TB hcode hT hu hTt hdef (L.has I.ok) fun f c' pm' ctv H1 s' J eN T1 hf hfn hfr hco => Calls.spliced_nil ⟨J.kIn, ?_⟩)
  refine wpAny_call (codeAny_mono (R := CR C8.CX0 X.stack X.prog X.w H1 s' Q C8.E0) (run_ofS (N := Ng) (ps := [a]) (us := [.ref f]) (vs := [.ref f]) lk hcg Sg hr J.env0 (hbi s' [.ref f] J.kIn rfl) (.cons rfl .nil) rfl fun hr' => ?_) fun r s2 hq => ?_)
  · obtain ⟨t', ht, hq⟩ := hG f c' s' H1 Q (fun E H' Q' => t E σ H' Q') (fun σ0 W pn xe E p1 p2 tk hW => act_at (i := 0) J L hf hfn hfr (hb _ _ _ _ _) tk hW hr' (fun A o s H hr2 => hbody A o s H E f c' hr2) hN hv d1 d2) hco (h H1 eN T1)
    exact ⟨t', ht.nox, hq⟩
  · cases r with
    | error e => exact (show False from hq).elim
    | ok fl =>
      cases fl with
      | ret u => exact J.after hq
      | next => cases hq
      | brk => cases hq
      | cont => cases hq
end HL

/-! own exceptions over any built-in base, their __init__ walked as a def; made with any count of arguments -/
namespace HL
open PySem PySem.Spec PyProof.Rows L2
open PySem.Builtin PySem.Builtin.ObjectAttr PySem.HandSPX
section
variable {prog : Program} {w : World} {A : Around} {R : Result → Shared → Prop} {hp : Heap} {g : Array GenState} {d : Drawn} {t : Nat} {os : OsState} {K : PySem.W.Frag} {f : Str} {tk : Tok} {v : Value} {x C : Addr} {fv : Array Value} {cd : ClassData}
/-- what a store on an instance looks up, told of its class alone -/
structure Mro (cd : ClassData) : Prop where
  pass : ∀ self, refuseLoop self "__setattr__" cd.mro = pure ()
  obj : cd.mro.contains (.type "object") = true
  ne : cd.mro.isEmpty = false
  hd : cd.hasDict = true
theorem osaG {o : Obj} {od : Option Obj} (X : K.In hp) (I : PySem.W.InstAt hp x o C od) (hcd : PySem.W.clsIn K C = some cd) (M : Mro cd) (ha : PySem.W.findIn K (.ref C) f = some none)
    (hq : wpAny (model prog w) A.in1 (storeInOwnDict (.ref x) (.ref C) (.str f tk) f v false) (fun r s' => match r with | .done fl => R (.ok fl) s' | .again c' => c'.quiet = true ∧ codeAny (model prog w) A c' R s') (fun e s' => R (.error e) s') ⟨hp, g, d, t, os⟩) :
    codeAny (model prog w) A (.call (.builtin "object.__setattr__") ⟨[.ref x, .str f tk, v], []⟩) R ⟨hp, g, d, t, os⟩ := by
  have SF := F.store_object
  have sub : PySem.W.Looks (model prog w) hp (isInstance (.ref x) (.type "object")) true := I.type.andThen (PySem.W.looks_mroIn X (by unfold PySem.W.mroIn; rw [hcd, Option.bind_some, if_neg (by rw [M.ne]; decide), M.obj]))
  refine codeAny_call_builtin SF.slot.plain SF.entry (@PySem.W.check_slot (model prog w) _ _ ⟨hp, g, d, t, os⟩ "object.__setattr__" "object" "__setattr__" (.ref x) [.str f tk, v] [] _ SF.kind SF.split sub (SF.args (.ref x) (.str f tk) v) ?_)
  have hmr : PySem.W.Looks (model prog w) hp (mroOf (.ref C)) cd.mro := (PySem.W.looks_clsIn X hcd).andThen .now
  have L3 : PySem.W.Looks (model prog w) hp (storeTaker? none) none := .now
  rw [PySem.W.osa_eq, refuse_eq]
  refine wpAny_bind (wpAny_bind (I.type.at (wpAny_bind (hmr.at ?_))))
  rw [M.pass]
  refine wpAny_pure (wpAny_bind (I.type.at (wpAny_bind ((PySem.W.looks_findIn X ha).at (wpAny_bind (L3.at ?_))))))
  exact hq
/-- the first field of an instance -/
theorem store1 (X : K.In hp) (hx : hp.get? x = some { cls := .ref C, data := .fields fv }) (hcd : PySem.W.clsIn K C = some cd) (M : Mro cd) (ha : PySem.W.findIn K (.ref C) f = some none)
    (hq : ∀ h' tk' dx, (∀ b o, b ≠ x → hp.get? b = some o → h'.get? b = some o) → hp.objs.size ≤ dx → dx ≠ x → h'.get? x = some { cls := .ref C, dict := some dx, data := .fields fv } → h'.Ns1 dx (fun y => if y = f then some v else none) → R (.ok (.ret .none)) ⟨h', g, d, tk', os⟩) :
    codeAny (model prog w) A (.call (.builtin "object.__setattr__") ⟨[.ref x, .str f tk, v], []⟩) R ⟨hp, g, d, t, os⟩ := by
  have hxs : x ≠ hp.objs.size := Nat.ne_of_lt (Heap.lt_size hx)
  refine osaG (od := none) X ⟨hx, rfl, rfl, trivial⟩ hcd M ha ?_
  have hc : PySem.W.Looks (model prog w) hp (classData C) cd := PySem.W.looks_clsIn X hcd
  obtain ⟨_, _, _, hdt⟩ := M
  obtain ⟨nm, bs, mro, ns, qn, hd, sn, sb, ab, col, del⟩ := cd
  cases hdt
  unfold storeInOwnDict ownDictForStores
  repeat (first | with_reducible refine store_in_new ?_ ?_ | with_reducible refine wpAny_loadPart_at hx ?_ | with_reducible refine hc.at ?_ | wp_step)
  · have nothing : ∀ e ∈ (#[] : Array DictEntry).toList, False := fun e he => by simp at he
    exact ⟨_, #[], _, (Heap.get?_update_ne _ _ _ _ hxs.symm).trans (Heap.get?_push_at rfl rfl),
      rfl, fun e he => absurd he (by simp), fun _ => rfl⟩
  · intro h' tk' hn' hs
    refine hq h' tk' hp.objs.size ?_ (Nat.le_refl _) hxs.symm ?_ hn'
    · intro b o hb ho
      rw [hs.2 b (Nat.ne_of_lt (Heap.lt_size ho)), Heap.get?_update_ne _ _ _ _ hb]
      exact Heap.get?_push_of_some _ ho
    · rw [hs.2 x hxs]
      exact Heap.get?_update_self _ (Heap.get?_push_of_some _ hx) rfl
/-- a further field -/
theorem store2 {dx : Addr} {m0 : Str → Option Value} {nl : List Str} (X : K.In hp) (hx : hp.get? x = some { cls := .ref C, dict := some dx, data := .fields fv }) (hns : hp.Ns1 dx m0) (hw : Within m0 nl) (hz : nl.length ≤ 1000) (hcd : PySem.W.clsIn K C = some cd) (M : Mro cd) (ha : PySem.W.findIn K (.ref C) f = some none)
    (hq : ∀ h' tk', (∀ b o, b ≠ dx → hp.get? b = some o → h'.get? b = some o) → h'.Ns1 dx (fun y => if y = f then some v else m0 y) → R (.ok (.ret .none)) ⟨h', g, d, tk', os⟩) :
    codeAny (model prog w) A (.call (.builtin "object.__setattr__") ⟨[.ref x, .str f tk, v], []⟩) R ⟨hp, g, d, t, os⟩ := by
  obtain ⟨oD, _, _, hoD, _, _⟩ := hns.count hw
  refine osaG (od := some oD) X ⟨hx, rfl, rfl, hoD⟩ hcd M ha ?_
  have hc : PySem.W.Looks (model prog w) hp (classData C) cd := PySem.W.looks_clsIn X hcd
  obtain ⟨_, _, _, hdt⟩ := M
  obtain ⟨nm, bs, mro, ns, qn, hd, sn, sb, ab, col, del⟩ := cd
  cases hdt
  unfold storeInOwnDict ownDictForStores
  repeat (first | with_reducible refine PySem.OEX.store_in_old hns hw hz ?_ | with_reducible refine wpAny_loadPart_at hx ?_ | with_reducible refine hc.at ?_ | wp_step)
  exact fun h' tk' hn' hs => hq h' tk' (fun b o hb ho => by rw [hs.2 b hb]; exact ho) hn'
end
/-- what the written part says of an own class over a built-in base -/
structure OexB (K : PySem.W.Frag) (C : Addr) (nid : String) (bmB : List Value) : Prop where
  cls : ∃ nm q N bs bm sn sub ab col dd k0 k1 k2 k3 k5, K.lookup C = some (excClassObj nm q C N bs bm true sn sub ab col dd k0 k1 k2 k3 k5 nid) ∧ (∀ X : String, bm.contains (.type X) = bmB.contains (.type X)) ∧ ∀ self, refuseLoop self "__setattr__" (.ref C :: bm) = pure ()
  ob : bmB.contains (.type "object") = true
  sa : PySem.W.findIn K (.ref C) "__setattr__" = some (some (.builtin "object.__setattr__"))
  exC : PySem.W.subIn K (.ref C) (.type "BaseException") = some true
  tyC : PySem.W.typeIn K (.ref C) = some (.type "type")
  kC : PySem.W.keepIn K (.ref C) = true
theorem OexB.mro {K : PySem.W.Frag} {C : Addr} {nid : String} {bmB : List Value} (T : OexB K C nid bmB) : ∃ cd, PySem.W.clsIn K C = some cd ∧ Mro cd := by
  obtain ⟨nm, q, N, bs, bm, sn, sub, ab, col, dd, k0, k1, k2, k3, k5, hC, h1, h2⟩ := T.cls
  refine ⟨{ name := nm, bases := bs, mro := .ref C :: bm, ns := N, qualname := q, hasDict := true, slotNames := sn, subclasses := sub, abstract := ab, collection := col, hasDel := false }, by unfold PySem.W.clsIn; rw [hC] <;> rfl, h2, ?_, rfl, rfl⟩
  show (Value.ref C :: bm).contains (.type "object") = true
  rw [List.contains_cons, h1, T.ob, Bool.or_true]
section
variable {X : Cx} {nid : String} {bmB : List Value} {pins : List (Addr × Obj)} {σ : L2.St} {H : Hp} {s : Shared} {a C dx : Addr} {f : Str} {y : V} {u : Value} {fs : List (Str × V)} {Q : Unit → Shared → Prop} {E : Value → Shared → Prop} {A : Around}
theorem ostN (T : OexB X.K C nid bmB) (I : Inv X pins σ H s) (e : H a = some (exo a C none)) (hno : PySem.W.findIn X.K (.ref C) f = some none) (ry : RelV y u)
    (h : ∀ dx s', H dx = none → dx ≠ a → Inv X pins σ (upd (upd H dx (exd dx [(f, y)])) a (exo a C (some dx))) s' → Q () s') : wpAny (model X.prog X.w) A (setAttr (.ref a) f u) Q E s := by
  obtain ⟨cd, hcl, M⟩ := T.mro
  obtain ⟨t1, ho⟩ := exo_at I.hok e
  obtain ⟨hp, g, d, t, os⟩ := s
  refine PySem.W.set_plain (od := none) I.kIn ⟨ho, rfl, rfl, trivial⟩ T.sa (store1 I.kIn ho hcl M hno fun h' tk' dx k dn dne hx hn => ?_)
  have nH : H dx = none := I.hok.fresh dn
  have old : ∀ {b : Addr} {o : Obj}, hp.get? b = some o → b ≠ dx := fun {b o} q => Nat.ne_of_lt (Nat.lt_of_lt_of_le (Heap.lt_size q) dn)
  have off : ∀ {b : Addr}, H b = none → b ≠ a := fun {b} n z => by rw [z, e] at n; cases n
  have two : ∀ {b : Addr} {o : HO}, H b = some o → exo a C none ≠ o → upd (upd H dx (exd dx [(f, y)])) a (exo a C (some dx)) b = some o := fun {b o} q ne => by
    rw [upd_ne (at_ne e q ne), upd_ne (ne_of_none q nH)]
    exact q
  refine h dx _ nH dne (I.un (t' := tk') { keep := fun b o q n _ _ => k b o (off n) q, slot := fun b o q n _ _ => ⟨o.slots, k b o (off n) q⟩, free := ?fr, there := ?th, tups := fun b xs q => two q exo_tup, frzs := fun b o v q => two q exo_frz, tbls := fun b ps q => ⟨#[], by rw [two q exo_tbl]; simp⟩ } fun b o q => ?ok)
  case fr =>
    intro b o q n _
    rw [upd_ne (off n), upd_ne (old q)]
    exact n
  case th =>
    intro b o q _
    by_cases hb : b = a
    · rw [hb]
      exact ⟨_, hx⟩
    · exact ⟨o, k b o hb q⟩
  case ok =>
    by_cases hb : b = a
    · subst hb
      rw [upd_same] at q
      cases q
      exact exo_ok hx
    rw [upd_ne hb] at q
    by_cases hd : b = dx
    · subst hd
      rw [upd_same] at q
      cases q
      exact exd_ok hn (relO_put (fs := []) ry fun g => True.intro)
    rw [upd_ne hd] at q
    refine (I.hok b o q).stay (fun c v hc z => k c v ?_ z) (fun c hc => two hc exo_own) (fun c xs hc => two hc exo_tup)
    rcases hc with hc | hc
    · rw [hc]; exact hb
    · exact at_ne e hc exo_own
theorem ostO (T : OexB X.K C nid bmB) (I : Inv X pins σ H s) (e : H a = some (exo a C (some dx))) (ed : H dx = some (exd dx fs)) (hl : fs.length ≤ 900) (hno : PySem.W.findIn X.K (.ref C) f = some none) (ry : RelV y u)
    (h : ∀ s', Inv X pins σ (upd H dx (exd dx ((f, y) :: fs))) s' → Q () s') : wpAny (model X.prog X.w) A (setAttr (.ref a) f u) Q E s := by
  obtain ⟨cd, hcl, M⟩ := T.mro
  obtain ⟨t1, ho⟩ := exo_at I.hok e
  obtain ⟨mA, hns, rel⟩ := exd_at I.hok ed
  have hw := within_of rel
  obtain ⟨hp, g, d, t, os⟩ := s
  obtain ⟨oD, _, _, hoD, _, _⟩ := hns.count hw
  refine PySem.W.set_plain (od := some oD) I.kIn ⟨ho, rfl, rfl, hoD⟩ T.sa (store2 I.kIn ho hns hw (by rw [List.length_map]; omega) hcl M hno fun h' tk' k hn => ?_)
  have hd : ∃ o, h'.get? dx = some o := let ⟨o, _, _, e', _⟩ := hn; ⟨o, e'⟩
  exact h _ (I.write (t' := tk') (x := dx) (e := dx) (o := exd dx ((f, y) :: fs)) (by rw [ed]; exact True.intro) (.inl rfl) k hd (exd_ok hn (relO_put ry rel)))
end
/-! ### readings and rules -/
/-- self.f = e -/
def tOstB (K : PySem.W.Frag) (nid : String) (bmB : List Value) (f : Str) (to te : TE) : TS := fun D σ H => te σ H fun y H1 => to σ H1 fun x H2 => ∃ a C : Addr, x = .ref a ∧ OexB K C nid bmB ∧ PySem.W.findIn K (.ref C) f = some none ∧
  ((H2 a = some (exo a C none) ∧ ∀ dx, H2 dx = none → dx ≠ a → D.nx σ (upd (upd H2 dx (exd dx [(f, y)])) a (exo a C (some dx)))) ∨
    ∃ (dx : Addr) (fs : List (Str × V)), H2 a = some (exo a C (some dx)) ∧ H2 dx = some (exd dx fs) ∧ fs.length ≤ 900 ∧ D.nx σ (upd H2 dx (exd dx ((f, y) :: fs))))
section
variable {X : Cx} {nid : String} {bmB : List Value} {o e : Expr} {es : List Expr} {to te : TE} {ta : TA} {f : Str} {p p' pos : Pos}
theorem ps_ostB (ho : PE X o to) (he : PE X e te) (hs : swapsWith e (some (.Attribute o f p')) pos.line X.env = pure false := by rfl) : PS X (.Assign [.Attribute o f p'] e pos) (tOstB X.K nid bmB f to te) := by
  refine ⟨fun pins s σ H D I h => plainObj_wpAny_Assign_Attribute (thn (he.run pins s σ H _ I h) fun v s1 ⟨y, H1, I1, r1, q1⟩ => thn (ho.run pins s1 σ H1 _ I1 q1) ?_) hs⟩
  rintro u s2 ⟨x, H2, I2, r2, a, C, ex, T, hno, q⟩
  subst ex
  obtain rfl : u = Value.ref a := r2
  rcases q with ⟨ea, q⟩ | ⟨dx, fs, ea, ed, hl, q⟩
  · exact ostN T I2 ea hno r1 fun dx s' n ne J => ⟨σ, _, J, q dx n ne⟩
  · exact ostO T I2 ea ed hl hno r1 fun s' J => ⟨σ, _, J, q⟩
/-- the making, the arguments at hand -/
theorem make_at {CX : CXT} {B initId : String} {C fI : Addr} {k : Nat} {fd : FuncData} {ps : List Str} {sp : Sp} (EF : ExcBaseFacts B nid initId bmB) (T : OexB X.K C nid bmB) (iC : PySem.W.findIn X.K (.ref C) "__init__" = some (some (.ref fI))) (tI : PySem.W.typeIn X.K (.ref fI) = some (.type "function"))
    (F1 : FnOk X.prog X.w X.K X.mg X.base CX k fI fd ps sp) (hr : Room (k + 1) X.A) (hb : Binds X.K fd ps []) (hx : Passes CX X (fun _ _ _ => False)) {pins : List (Addr × Obj)} {σ : L2.St} {H1 : Hp} {s1 : Shared} {vs : List V} {us : List Value} {Q : XK} (I1 : Inv X pins σ H1 s1) (r1 : Vals vs us) (hz : vs.length ≤ 1000)
    (q1 : ∀ a, H1 a = none → sp (.ref a :: vs) (upd H1 a (exo a C none)) (fun v H2 => v = .non ∧ ∃ (d : Addr) (fs : List (Str × V)), H2 a = some (exo a C (some d)) ∧ H2 d = some (exd d fs) ∧ H1 d = none ∧ Q (.ref C) (some d) (upd (del H2 a) d (.xd fs))) (fun _ _ _ => False)) :
    wpAny (model X.prog X.w) X.A (call (.ref C) us) (MkP X pins σ Q) X.xe s1 := by
  obtain ⟨nm, q, N, bs, bm, sn, sub, ab, col, dd, k0, k1, k2, k3, k5, hC, h1, h2⟩ := T.cls
  obtain ⟨hp, g, dr, tk, os⟩ := s1
  have le : hp.objs.size ≤ hp.objs.size + 1 := Nat.le_succ _
  have hq := q1 (hp.objs.size + 1) (I1.hok.fresh le)
  have up : ∀ b o, hp.get? b = some o → ((hp.push (PySem.W.kdv_tup us)).push (excO C hp.objs.size)).get? b = some o := fun b o z => Heap.get?_push_of_some _ (Heap.get?_push_of_some _ z)
  have at1 : ((hp.push (PySem.W.kdv_tup us)).push (excO C hp.objs.size)).get? (hp.objs.size + 1) = some (excO C hp.objs.size) := by heap_get
  have I2 : Inv X pins σ (upd H1 (hp.objs.size + 1) (exo (hp.objs.size + 1) C none)) ⟨(hp.push (PySem.W.kdv_tup us)).push (excO C hp.objs.size), g, dr, tk, os⟩ := I1.laid (t' := tk) up le (exo_ok at1)
  have r2 : Vals (V.ref (hp.objs.size + 1) :: vs) (Value.ref (hp.objs.size + 1) :: us) := .cons rfl r1
  have len : (Value.ref (hp.objs.size + 1) :: us ++ []).length = ps.length := by
    rw [List.append_nil, ← r2.length]
    exact F1.len _ _ _ _ hq
  have bi := hb _ (Value.ref (hp.objs.size + 1) :: us) I2.kIn len
  rw [List.append_nil] at bi
  have small : us.length ≤ sizeLine := by
    rw [← Paired.length r1, sizeLine_eq]
    omega
  have run := F1.run _ X.stack _ _ ⟨Value.ref (hp.objs.size + 1) :: us, []⟩ (Value.ref (hp.objs.size + 1) :: us) _ _ (fun _ _ _ => False) (hr.make C us []) (I2.env0.make C us []) bi r2 hq
  refine wpAny_call (call_own EF h1 (I1.kIn _ _ hC) (PySem.W.looks_findIn I1.kIn iC) (fun self => PySem.W.bind_fn I1.kIn self tI) small (codeAny_mono run ?_))
  rintro (er | fl) s' hq'
  · exact hx pins σ _ _ er s' I2 hq'
  · cases fl with
    | ret u =>
      obtain ⟨v, H2, os2, bare2, un2, hok2, rv, ev, d, fs, ea, ed, hd1, q2⟩ := hq'
      subst ev
      exact ⟨rv, mk_end (raises_own T.exC T.tyC) I1 le up un2 hok2 os2 bare2 ea ed hd1 q2⟩
    | next => cases hq'
    | brk => cases hq'
    | cont => cases hq'
def tMkB (C : Addr) (sp : Sp) (ta : TA) : L2.St → Hp → XK → Prop := fun σ H Q => ta σ H fun vs H1 => vs.length ≤ 1000 ∧ ∀ a, H1 a = none → sp (.ref a :: vs) (upd H1 a (exo a C none))
  (fun v H2 => v = .non ∧ ∃ (d : Addr) (fs : List (Str × V)), H2 a = some (exo a C (some d)) ∧ H2 d = some (exd d fs) ∧ H1 d = none ∧ Q (.ref C) (some d) (upd (del H2 a) d (.xd fs))) (fun _ _ _ => False)
theorem pmk_oexB {CX : CXT} {B initId : String} {x : Str} {C fI : Addr} {k : Nat} {fd : FuncData} {ps : List Str} {sp : Sp} (EF : ExcBaseFacts B nid initId bmB) (T : OexB X.K C nid bmB) (iC : PySem.W.findIn X.K (.ref C) "__init__" = some (some (.ref fI))) (tI : PySem.W.typeIn X.K (.ref fI) = some (.type "function"))
    (F1 : FnOk X.prog X.w X.K X.mg X.base CX k fI fd ps sp) (hr : Room (k + 1) X.A) (hb : Binds X.K fd ps []) (hx : Passes CX X (fun _ _ _ => False)) (hg : Gl X x) (hm : X.mg x = some (.ref C)) (ha : PA X (e :: es) ta)
    (hdb : (x == ("__debug__" : Str)) = false := by decide) (he : starEach (e :: es) X.env = (false, eval e X.env) :: starEach es X.env := by rfl) (hpl : (backTo pos (starEach es X.env)).any (·.1) = false := by rfl) :
    PMk X (.Call (.Name x p) (e :: es) [] pos) (tMkB C sp ta) := fun pins s σ H Q I h =>
  wpAny_Call_Name_kw (ld_glob I hg hm (PySem.W.callWith_K (h₀ := X.base) I.ok.mod.kin T.kC (thn (ha.run pos pins s σ H _ I h) fun us s1 ⟨vs, H1, I1, r1, hz, q1⟩ => ⟨I1.kIn, make_at EF T iC tI F1 hr hb hx I1 r1 hz q1⟩) he hpl) hdb)
theorem pmk_oexB0 {CX : CXT} {B initId : String} {x : Str} {C fI : Addr} {k : Nat} {fd : FuncData} {ps : List Str} {sp : Sp} (EF : ExcBaseFacts B nid initId bmB) (T : OexB X.K C nid bmB) (iC : PySem.W.findIn X.K (.ref C) "__init__" = some (some (.ref fI))) (tI : PySem.W.typeIn X.K (.ref fI) = some (.type "function"))
    (F1 : FnOk X.prog X.w X.K X.mg X.base CX k fI fd ps sp) (hr : Room (k + 1) X.A) (hb : Binds X.K fd ps []) (hx : Passes CX X (fun _ _ _ => False)) (hg : Gl X x) (hm : X.mg x = some (.ref C)) (hdb : (x == ("__debug__" : Str)) = false := by decide) :
    PMk X (.Call (.Name x p) [] [] pos) (tMkB C sp tNil) := fun pins s σ H Q I h =>
  wpAny_Call_Name_kw (ld_glob I hg hm (PySem.W.callWith_K0 I.kIn T.kC (make_at EF T iC tI F1 hr hb hx I .nil (Nat.zero_le _) h.2)) hdb)
end
end HL

namespace HL
open PySem PySem.Spec PyProof.Rows L2
/-! sorted(t), t a tuple of ints -/
def rSortedTup (K : PySem.W.Frag) : List V → Hp → VK → Prop := fun vs H Q => ∃ (a : Addr) (ns : List Int), vs = [V.ref a] ∧ SqT K H a (ns.map V.int) ∧ ∀ (ns' : List Int) (p : Addr), ns'.Perm ns → ns'.Pairwise (· ≤ ·) → H p = none → Q (.ref p) (upd H p (.lst (ns'.map V.int)))
theorem cr_sortedTup {X : Cx} : CallR X (.builtin "sorted") (rSortedTup X.K) := by
  intro pins s σ H vs us Q I r h
  obtain ⟨a, ns, rfl, hs, q⟩ := h
  obtain ⟨its, rv, ⟨o, ho, hc, n, hd⟩, hz⟩ := I.tuple hs
  rw [Vals.ref1 r]
  have hi := rv.ints
  have hz' : its.length ≤ sizeLine := by rw [← rv.length]; exact hz
  refine Calls.call_function_entry kind_sorted plain_sorted entry_sorted (args_sorted1 _) ?_
  unfold Builtin.«sorted»
  refine wpAny_bind (m := checkCount "sorted" 1 1 _) (wpAny_pure (wpAny_bind (wpAny_collect_seq (T := "tuple") a (.inr rfl) ho hc hd (fun h1 k1 => ?_) (by rw [List.size_toArray]; exact hz'))))
  rw [List.toList_toArray]
  refine wpAny_bind (wpAny_newList ?_ hz')
  have at1 : (h1.push (seqObj "list" its.toArray 0)).get? h1.objs.size = some (seqObj "list" its.toArray 0) := Heap.get?_push_size _ rfl
  have I1 := I.kept (t' := s.toks) k1
  refine wpAny_bind (wpAny_holding (wpAny_call_entry slot_list_sort ⟨_, at1, rfl⟩ entry_list_sort (SrtO.list_sort_ord SrtO.swo_int at1 hz' (fun h2 => SrtO.ints_sortable hi h2) fun out p1 p2 => ⟨_, rfl, ?_⟩) (args_list_sort _)))
  refine wpAny_pure ⟨_, rfl, ?_⟩
  obtain ⟨j1, j2, j3⟩ := SrtO.ints_out hi p1 p2
  obtain ⟨ep, he⟩ := sortedHeap_at (vs := its) (out := out.toArray) at1
  have hl : ((out.map SrtO.iv).map V.int).length ≤ sizeLine := by
    rw [List.length_map, j2.length_eq]
    rw [List.length_map] at hz
    exact hz
  refine ⟨.ref _, upd H h1.objs.size (.lst ((out.map SrtO.iv).map V.int)), I1.laid (t' := s.toks) (fun b o e => ?_) (Nat.le_refl _) ⟨hl, out, ep, vals_of_ints j1, he⟩, rfl, q _ _ j2 j3 (I1.hok.fresh (Nat.le_refl _))⟩
  have lb : b < h1.objs.size := Heap.lt_size e
  rw [sortedHeap_old (Nat.ne_of_lt lb) (by rw [Heap.size_push]; exact Nat.lt_succ_of_lt lb)]
  exact Heap.get?_push_of_some _ e
end HL

namespace HL
open PySem PySem.Spec PyProof.Rows L2
open AutoSeq1 (wpAny_loadPart')
/-! t * k, k from 0 on: no times is a new tuple of nothing -/
theorem tuple_mul0 (l : Addr) (items : Array Value) (n : Nat) (dd : Option Addr) (sl : Array (Option Value)) (u : Tok) (he : items.isEmpty = false) :
    Meets (Builtin.«tuple.__mul__» ⟨[.ref l, .int 0 u], []⟩)
      (fun _ R s => s.heap.get? l = some { cls := .type "tuple", dict := dd, data := .seq items n, slots := sl } ∧ R (.ok (.ret (.ref s.heap.objs.size))) { s with heap := s.heap.push { cls := .type "tuple", data := .seq #[] }, toks := s.toks }) :=
  .of_wp fun prog w A R s h => by
    obtain ⟨hp, g, d, tk, os⟩ := s
    obtain ⟨hl, h⟩ := h
    have f1 := AutoSeq1.idx_int
    have e1 : ¬ ((items.isEmpty || ((0 : Int) == 1)) = true) := by rw [he]; decide
    have e2 : (decide ((0 : Int) ≤ 0) || items.isEmpty) = true := by rw [he]; decide
    have e3 : ¬ ((#[] : Array Value).size > sizeLine) := by show ¬ (0 > sizeLine); decide
    wp_walk using wpAny_loadPart' hl
    repeat (first
      | (refine wpAny_ite_false (by decide) ?_; wp_walk using wpAny_loadPart' hl)
      | (refine wpAny_ite_false (decide_eq_false e1) ?_; wp_walk using wpAny_loadPart' hl)
      | (refine wpAny_ite_true (decide_eq_true e2) ?_; wp_walk using wpAny_loadPart' hl)
      | (refine wpAny_ite_true (by decide) ?_; wp_walk using wpAny_loadPart' hl)
      | (refine wpAny_ite_false (decide_eq_false e3) ?_; wp_walk using wpAny_loadPart' hl))
    exact ⟨_, rfl, h⟩
/-- no times, or as often as rRepA lets -/
def rRepN (K : PySem.W.Frag) : R2 := fun x y H Q => (∃ l xs, x = .ref l ∧ y = .int 0 ∧ SqT K H l xs ∧ xs ≠ [] ∧ ∀ p, H p = none → Q (.ref p) (upd H p (.tup []))) ∨ rRepA K x y H Q
theorem op_repN {X : Cx} : OpR X (binaryOp .Mult) (rRepN X.K) := by
  intro pins s σ H x y v u Q I rx ry h
  rcases h with ⟨l, xs, rfl, rfl, hT, hne, q⟩ | h
  · cases rx
    obtain ⟨t, rfl⟩ := ry
    obtain ⟨its, r, ⟨⟨cl, dd, dat, sl⟩, ho, hc, n, hd⟩, _⟩ := I.tuple hT
    simp only at hc hd
    subst hc hd
    have he : its.toArray.isEmpty = false := by
      cases its with
      | nil => exact absurd (List.eq_nil_of_length_eq_zero r.length) hne
      | cons a b => rfl
    refine wpAny_binaryOp_repeat_ref (T := "tuple") (U := "int") (by decide) ⟨_, ho, rfl⟩ (fun s' => typeIs_int s' 0 t) noFill_tuple_mul F.fills_int_mul F.slot_int_rmul repeat_tuple F.slot_int_index.lookup
      (call_meets F.slot_int_rmul (typeIs_int s 0 t) F.entry_int_rmul (F.args_int_rmul_2 _ _) (int_rmul_tuple 0 t l its.toArray n dd sl)
        ⟨ho, rfl, ⟨_, ho, rfl⟩, call_meets F.slot_tuple_mul ⟨_, ho, rfl⟩ F.entry_tuple_mul (F.args_tuple_mul_2 _ _) (tuple_mul0 l its.toArray n dd sl t he) ⟨ho, ?_⟩⟩)
    exact ⟨.ref s.heap.objs.size, _, I.laid (t' := s.toks) (o := .tup []) (fun b ob e => Heap.get?_push_of_some _ e) (Nat.le_refl _) ⟨Nat.zero_le _, [], .nil, IsTup.new _ _⟩, rfl, q _ (I.hok.fresh (Nat.le_refl _))⟩
  · exact op_repA pins s σ H x y v u Q I rx ry h
end HL

namespace HL
open PySem PySem.Spec PyProof.Rows L2
/-! {t: v}, t a tuple of ints and texts -/
def tDisp1T (tk tv : TE) : TE := fun σ H Q => ∀ p, H p = none → tk σ (upd H p (.dT [])) fun x H1 => tv σ H1 fun y H2 => ∃ (k : List Key) (b : Addr), x = .ref b ∧ H2 b = some (.tup (k.map kV)) ∧ H2 p = some (.dT []) ∧ Q (.ref p) (upd H2 p (.dT [(k, y)]))
theorem pe_disp1T {X : Cx} {ke ve : Expr} {pos : Pos} {tk tv : TE} (hu : X.A.units + 1 < cLine) (hk : PE X ke tk) (hv : PE X ve tv) : PE X (.Dict [some ke] [ve] pos) (tDisp1T tk tv) := by
  refine ⟨fun pins s σ H Q I q => ?_⟩
  have hn := I.hok.fresh (Nat.le_refl s.heap.objs.size)
  have I1 := I.laid (a := s.heap.objs.size) (o := .dT []) (h' := s.heap.push { cls := .type "dict", data := .dict #[] }) (t' := s.toks) (fun _ _ e => Heap.get?_push_of_some _ e) (Nat.le_refl _) (dt_empty s.heap I.big)
  rw [arm_eval_Dict, zip_pairTrees [some ke] [ve] X.env pos rfl rfl, dictDisplay_pairs (pairTrees [some ke] [ve] X.env pos) (fun z => by cases z) (by show 1 < 17; decide)]
  refine wpAny_bind (wpAny_standAt (wpAny_bind ?_))
  unfold subDict
  refine wpAny_bind (wpAny_alloc (wpAny_bind (wpAny_holding ?_)))
  rw [if_pos (show (pairTrees [some ke] [ve] X.env pos).length ≤ 15 by show 1 ≤ 15; decide)]
  refine wpAny_bind (pairTrees_cons_walk (thn (hk.run pins _ σ _ _ I1 (q _ hn)) fun u s1 ⟨x, H1, I2, rx, q1⟩ => thn (hv.run pins s1 σ H1 _ I2 q1) fun w2 s2 ⟨y, H2, I3, ry, q2⟩ => pairTrees_nil_walk (wpAny_holding ?_)))
  obtain ⟨k, b, rfl, hb, hp, q3⟩ := q2
  cases (show u = Value.ref b from rx)
  obtain ⟨z, hd, xs, rel, dd⟩ := dt_of I3.hok hp
  rw [List.forIn_cons]
  refine wpAny_bind (wpAny_bind ?_)
  show wpAny (model X.prog X.w) X.A (dictSet s.heap.objs.size (.ref b) w2 >>= fun _ => pure (ForInStep.yield PUnit.unit)) _ _ _
  refine wpAny_bind (wpAny_dictSet_heap (hsz := by rw [← Paired.length rel]; exact z) (show (tupleKind (mixKind X.prog X.w)).room X.A from Nat.lt_of_le_of_lt (Nat.le_succ _) hu) (key_of I3.hok hb) dd fun h' dd' hs => wpAny_pure ?_)
  show wpAny (model X.prog X.w) X.A (forIn [] PUnit.unit _) _ _ _
  rw [List.forIn_nil]
  refine wpAny_pure (wpAny_pure (wpAny_pure (wpAny_pure ⟨.ref s.heap.objs.size, _, ?_, rfl, q3⟩)))
  obtain ⟨o, es, ep, hq, h2, h3, h4, _, h5⟩ := dd'
  cases rel
  refine d_write I3 (by rw [hp]; exact True.intro) hs ⟨o, hq⟩ ⟨by show 1 ≤ sizeLine; decide, hd, _, ((KT.put (H := H2) .nil k hb ry)).keeps fun c ys ec => ?_, o, es, ep, hq, h2, h3, h4, h5⟩
  rw [upd_ne (ne_of ec hp (fun z => nomatch z))]
  exact ec
end HL

namespace HL
open PySem PySem.Spec PyProof.Rows L2 HT
/-! t += u, both tuples -/
theorem noI_tup : typeLookup (.type "tuple") (dunderI "add") = pure none := by rw [typeLookup_type, builtinLookup_eq_fast]; kernel_rfl
section
variable {X : Cx}
theorem ip_catA : PIp X .Add (rCatA X.K) := by
  intro pins s σ H x y v u Q I rx ry h
  obtain ⟨a, b, xs, ys, rfl, rfl, ha, hb, hz, q0, q1, q2⟩ := h
  cases rx
  cases ry
  obtain ⟨is1, r1, p1, _⟩ := I.tuple ha
  obtain ⟨is2, r2, p2, _⟩ := I.tuple hb
  obtain ⟨⟨c1, d1, da1, sl1⟩, o1, k1, n1, e1⟩ := id p1
  obtain ⟨⟨c2, d2, da2, sl2⟩, o2, k2, n2, e2⟩ := id p2
  simp only at k1 e1 k2 e2
  subst k1 e1 k2 e2
  have go : ∀ {S : PySem.Spec} (_ : Meets ((fun B : Builtin => B ⟨[.ref a, .ref b], []⟩) _) S) (_ : S X.A (wants (EP X pins σ Q) X.xe) s), wpAny (model X.prog X.w) X.A (inplaceOp .Add (.ref a) (.ref b)) (EP X pins σ Q) X.xe s :=
    fun g h => PyProof.Rows.inplaceOp_concat ⟨_, o1, rfl⟩ ⟨_, o2, rfl⟩ noI_tup noFill_tuple_add seq_tuple_add (call_meets PySem.F.slot_tuple_add ⟨_, o1, rfl⟩ PySem.F.entry_tuple_add (PySem.F.args_tuple_add_2 _ _) g h)
  by_cases hx : xs = []
  · subst hx
    cases r1
    exact go (tuple_addW0 a b ([] : List Value).toArray is2.toArray n1 n2 d1 d2 sl1 sl2 (by simp)) ⟨o1, o2, ⟨.ref b, H, I, rfl, q0 rfl⟩⟩
  · have hv : is1 ≠ [] := fun z => hx (r1.nil_iff.mp z)
    by_cases hy : is2 = []
    · exact go (tuple_addW1 a b is1.toArray is2.toArray n1 n2 d1 d2 sl1 sl2 (by simpa using hv) (by simp [hy])) ⟨o1, o2, ⟨.ref a, H, I, rfl, q1 hx (r2.nil_iff.mp hy)⟩⟩
    · refine go (tuple_addW2 a b is1.toArray is2.toArray n1 n2 d1 d2 sl1 sl2 (by simpa using hv) (by simpa using hy) (by rw [List.size_toArray, List.size_toArray, ← r1.length, ← r2.length]; exact hz)) ⟨o1, o2, ?_⟩
      rw [show is1.toArray ++ is2.toArray = (is1 ++ is2).toArray by simp]
      refine ⟨.ref s.heap.objs.size, _, I.laid (t' := s.toks) (o := .tup (xs ++ ys)) (fun c oc q => Heap.get?_push_of_some _ q) (Nat.le_refl _) ?_, rfl, q2 hx (fun w => hy (r2.nil_iff.mpr w)) _ (I.hok.fresh (Nat.le_refl _))⟩
      exact ⟨by rw [List.length_append]; exact hz, is1 ++ is2, r1.append r2, IsTup.new _ _⟩
end
end HL

namespace HL
open PySem PySem.Spec PyProof.Rows L2
/-! sorted of a list of rows (tuples of as many whole numbers each, from 0 to below B) that rise already -/
def codeV (h : Heap) (B : Int) (v u : Value) : Bool := decide (TS.code B (TS.intsOf h v) < TS.code B (TS.intsOf h u))
theorem codeV_swo (h : Heap) (B : Int) : SrtO.Swo (codeV h B) := by
  refine ⟨fun x y e => ?_, fun x y z e1 e2 => ?_⟩
  · have := of_decide_eq_true e
    exact decide_eq_false (by omega)
  · have a1 := of_decide_eq_false e1
    have a2 := of_decide_eq_false e2
    exact decide_eq_false (by omega)
theorem vals_refs : ∀ {us : List Value} {as : List Addr}, (∀ u ∈ us, ∃ a, u = Value.ref a) → as.map V.ref = us.map backV → us = as.map Value.ref
  | [], [], _, _ => rfl
  | [], _ :: _, _, e => by simp at e
  | _ :: _, [], _, e => by simp at e
  | u :: us, a :: as, h, e => by
    obtain ⟨b, rfl⟩ := h u List.mem_cons_self
    rw [List.map_cons, List.map_cons] at e
    obtain ⟨e1, e2⟩ := List.cons.inj e
    have e3 : V.ref a = V.ref b := e1
    rw [List.map_cons, V.ref.inj e3, vals_refs (fun u hu => h u (List.mem_cons_of_mem _ hu)) e2]
theorem sortable_rows {prog : Program} {w : World} {A : Around} {s : Shared} {a : Addr} {vs : List Value} {d : Nat} {B : Int} {f : Value → Value → Bool} (h0 : 0 < vs.length) (hd : 1 ≤ d) (x : TS.TupsOk s.heap d B vs) (hf : ∀ v u ns ms, v ∈ vs → u ∈ vs → TS.TupInts s.heap v ns → TS.TupInts s.heap u ms → f v u = decide (TS.code B ns < TS.code B ms))
    (ha : ∀ o, s.heap.get? a = some o → o.cls ≠ .type "tuple") : SrtO.SortableO prog w A s a vs f := by
  intro h' keep
  have kk : ∀ b o, s.heap.get? b = some o → o.cls = .type "tuple" → h'.get? b = some o := fun b o e c => keep b o (fun z => by subst z; exact ha o e c) e
  have x' := x.keeps kk
  obtain ⟨fs, h1, h2, h3⟩ := TS.firsts_of hd vs x'
  refine ⟨tuples' true, fun Q E hq => ?_, ?_⟩
  · refine PySem.W.kat_kind (T := .type "int") h1 (by omega) (fun g hm => ?_) (by rfl) ?_
    · obtain ⟨n, t, rfl⟩ := h3 g hm
      exact PySem.W.Looks.now
    · rw [show (Value.type "int" != Value.type "tuple") = true by first | decide +kernel | rfl | decide]
      exact hq
  · intro p q hp hq
    obtain ⟨ns, t1, l1, b1⟩ := x _ hp
    obtain ⟨ms, t2, l2, b2⟩ := x _ hq
    show wpAny (model prog w) A (keyLt' (tuples' true) p.1 q.1) (fun r s' => s' = { s with heap := h' } ∧ r = f p.1 q.1) (fun _ _ => False) { s with heap := h' }
    rw [hf _ _ _ _ hp hq t1 t2]
    obtain ⟨a1, xs, e1, ⟨o1, ho1, hc1, n1, hd1⟩, i1⟩ := t1.keeps kk
    obtain ⟨a2, ys, e2, ⟨o2, ho2, hc2, n2, hd2⟩, i2⟩ := t2.keeps kk
    rw [e1, e2]
    refine PySem.W.kat_lt ho1 hd1 ho2 hd2 ?_
    have z1 := i1.length
    have z2 := i2.length
    rw [Array.length_toList] at z1 z2
    rw [show decide (xs.size < ys.size) = false from decide_eq_false (by omega)]
    exact TS.lex_ints 0 i1 i2 (by omega) b1 b2 ⟨rfl, rfl⟩
def rSortedR (K : PySem.W.Frag) : List V → Hp → VK → Prop := fun vs H Q => ∃ (a : Addr) (as : List Addr) (rows : List (List Int)) (d : Nat) (B : Int), vs = [V.ref a] ∧ SqL K H a (as.map V.ref) ∧ as.length = rows.length ∧
  (∀ (i : Nat) (b : Addr) (r : List Int), as[i]? = some b → rows[i]? = some r → H b = some (.tup (r.map V.int))) ∧ 1 ≤ d ∧ (∀ r ∈ rows, r.length = d ∧ TS.Bd B r) ∧ rows.Pairwise (fun r s => TS.code B r < TS.code B s) ∧ ∀ p, H p = none → Q (.ref p) (upd H p (.lst (as.map V.ref)))
theorem cr_sortedR {X : Cx} : CallR X (.builtin "sorted") (rSortedR X.K) := by
  intro pins s σ H vs us Q I r h
  obtain ⟨a, as, rows, d, B, rfl, hs, hlen, hat, hd, hok, hrise, q⟩ := h
  obtain ⟨its, rv, hl, hz⟩ := I.list hs
  obtain ⟨u, rfl, ru⟩ := vals1 r
  obtain rfl : u = Value.ref a := ru
  obtain ⟨e1, e2⟩ := refs_back rv fun x m => by
    obtain ⟨b, _, rfl⟩ := List.mem_map.mp m
    exact ⟨b, rfl⟩
  obtain rfl := vals_refs e2 e1
  have tup : ∀ (i : Nat) (b : Addr) (r : List Int), as[i]? = some b → rows[i]? = some r → TS.TupInts s.heap (.ref b) r := fun i b r h1 h2 => by
    obtain ⟨_, its2, r2, o, ho, hc, n, hdt⟩ := I.hok _ _ (hat i b r h1 h2)
    exact ⟨b, its2.toArray, rfl, ⟨o, ho, hc, n, hdt⟩, by rw [List.toList_toArray]; exact r2.ints⟩
  have row : ∀ (i : Nat) (b : Addr), as[i]? = some b → ∃ r, rows[i]? = some r := fun i b hb => by
    have := (List.getElem?_eq_some_iff.mp hb).1
    exact ⟨_, List.getElem?_eq_getElem (by omega)⟩
  have tok : TS.TupsOk s.heap d B (as.map Value.ref) := fun v hv => by
    obtain ⟨b, hb, rfl⟩ := List.mem_map.mp hv
    obtain ⟨i, hi, e⟩ := List.mem_iff_getElem.mp hb
    have hb' : as[i]? = some b := by rw [List.getElem?_eq_getElem hi, e]
    obtain ⟨r, hr⟩ := row i b hb'
    obtain ⟨k1, k2⟩ := hok r (List.mem_of_getElem? hr)
    exact ⟨r, tup i b r hb' hr, k1, k2⟩
  have srt : SrtO.Srtd (codeV s.heap B) (as.map Value.ref) := by
    refine List.pairwise_iff_getElem.mpr fun i j hi hj hij => ?_
    rw [List.length_map] at hi hj
    have hi' : as[i]? = some as[i] := List.getElem?_eq_getElem hi
    have hj' : as[j]? = some as[j] := List.getElem?_eq_getElem hj
    have ri : rows[i]? = some (rows[i]'(by omega)) := List.getElem?_eq_getElem _
    have rj : rows[j]? = some (rows[j]'(by omega)) := List.getElem?_eq_getElem _
    have := List.pairwise_iff_getElem.mp hrise i j (by omega) (by omega) hij
    rw [List.getElem_map, List.getElem_map]
    unfold codeV
    rw [(tup j _ _ hj' rj).ints, (tup i _ _ hi' ri).ints]
    exact decide_eq_false (by omega)
  have hz' : (as.map Value.ref).length ≤ sizeLine := by rw [List.length_map]; rw [List.length_map] at hz; exact hz
  refine SrtO.sorted_ord (codeV_swo s.heap B) hl.isList hz' (fun h2 h₁ a' ha kk => ?_) fun out hso hb => ?_
  · refine sortable_rows (s := { s with heap := h₁ }) (d := d) (B := B) (by omega) hd (tok.keeps fun b o e _ => (kk b o e).2) (fun v u ns ms mv mu tv tu => ?_) fun o e => ?_
    · obtain ⟨ns', tv', _⟩ := tok v mv
      obtain ⟨ms', tu', _⟩ := tok u mu
      have kv := (tv'.keeps fun b o e _ => (kk b o e).2).ints
      have ku := (tu'.keeps fun b o e _ => (kk b o e).2).ints
      have ev : ns = ns' := tv.ints.symm.trans kv
      have eu : ms = ms' := tu.ints.symm.trans ku
      unfold codeV
      rw [tv'.ints, tu'.ints, ev, eu]
    · have e' : some o = some (seqObj "list" (as.map Value.ref).toArray 0) := e.symm.trans ha
      cases e'
      intro c
      exact absurd (Value.type.inj c) (by decide)
  · have eo := SrtO.stb_uniq (codeV_swo s.heap B) hso srt hb
    subst eo
    obtain ⟨n, hn⟩ := sortedAll_at s.heap (as.map Value.ref) (as.map Value.ref).toArray
    refine ⟨.ref _, upd H (s.heap.objs.size + 1) (.lst (as.map V.ref)), I.laid (t' := s.toks) (fun b o e => sortedAll_old e) (Nat.le_succ _) ⟨hz, as.map Value.ref, n, rv, hn⟩, rfl, q _ (I.hok.fresh (Nat.le_succ _))⟩
end HL

namespace HL
open PySem PySem.Spec PyProof.Rows L2
/-! xs[i] of a list, read for xs[i] += e -/
def rGetL (K : PySem.W.Frag) : V → V → Hp → VK → Prop := fun x y H Q => ∃ p xs i z, x = .ref p ∧ y = .int i ∧ SqL K H p xs ∧ 0 ≤ i ∧ atI xs i = some z ∧ Q z H
theorem get_list {X : Cx} : PGet X (rGetL X.K) := by
  intro pins s σ H x y v u Q I rx ry h
  obtain ⟨p, xs, i, z, rfl, rfl, hq, h0, he, q⟩ := h
  cases rx
  obtain ⟨t, rfl⟩ := ry
  obtain ⟨its, r, pl, hz⟩ := I.list hq
  obtain ⟨j, h1, h2, h3, h4, h5⟩ := atI_get he
  obtain ⟨w, ew, rw'⟩ := r.get h2
  have hl := r.length
  have hn := line63
  have fin : EP X pins σ Q w s := ⟨z, H, I, rw', q⟩
  have hj : i.toNat = j := by
    rw [seqIndex_of h0 h5] at h1
    exact Option.some.inj h1
  exact wpAny_getItem_list pl.isList h0 (by omega) (by rw [hj]; simpa using ew) fin
end HL

namespace HL
/-! ### rows, and how many ways there are to make one of rows -/
/-- b less h, taken k times -/
def subR (b h : List Int) (k : Int) : List Int := (b.zip h).map fun q => q.1 - k * q.2
def zeroB (b : List Int) : Bool := b.all fun z => decide (z = 0)
def nnB (b : List Int) : Bool := b.all fun z => decide (0 ≤ z)
def cnt : List (List Int) → List Int → Nat
  | [], b => if zeroB b = true then 1 else 0
  | h :: t, b => ((List.range (b.sum.toNat + 1)).map fun (k : Nat) => cnt t (subR b h (k : Int))).sum
/-- a kind: as wide as told, nothing below 0, something above it -/
def Kd (g : Nat) (h : List Int) : Prop := h.length = g ∧ (∀ n ∈ h, 0 ≤ n) ∧ ∃ n ∈ h, 0 < n
theorem sum_zeroN : ∀ {l : List Nat}, (∀ x ∈ l, x = 0) → l.sum = 0
  | [], _ => rfl
  | x :: l, h => by rw [List.sum_cons, h x List.mem_cons_self, sum_zeroN fun y hy => h y (List.mem_cons_of_mem _ hy)]
theorem nnB_iff {b : List Int} : nnB b = true ↔ ∀ n ∈ b, 0 ≤ n := by
  unfold nnB
  rw [List.all_eq_true]
  exact ⟨fun h n hn => of_decide_eq_true (h n hn), fun h n hn => decide_eq_true (h n hn)⟩
theorem zeroB_iff {b : List Int} : zeroB b = true ↔ ∀ n ∈ b, n = 0 := by
  unfold zeroB
  rw [List.all_eq_true]
  exact ⟨fun h n hn => of_decide_eq_true (h n hn), fun h n hn => decide_eq_true (h n hn)⟩
theorem subR_len {b h : List Int} {k : Int} (e : b.length = h.length) : (subR b h k).length = b.length := by
  unfold subR
  rw [List.length_map, List.length_zip]
  omega
theorem subR_cons {x y : Int} {b h : List Int} {k : Int} : subR (x :: b) (y :: h) k = (x - k * y) :: subR b h k := rfl
theorem subR_zero : ∀ {b h : List Int}, b.length = h.length → subR b h 0 = b
  | [], [], _ => rfl
  | x :: b, y :: h, e => by
    rw [subR_cons, subR_zero (by simpa using e), Int.zero_mul, Int.sub_zero]
  | [], _ :: _, e => by simp at e
  | _ :: _, [], e => by simp at e
theorem subR_add : ∀ {b h : List Int} {j k : Int}, subR (subR b h j) h k = subR b h (j + k)
  | [], _, _, _ => rfl
  | _ :: _, [], _, _ => rfl
  | x :: b, y :: h, j, k => by
    rw [subR_cons, subR_cons, subR_cons, subR_add, Int.add_mul]
    congr 1
    omega
theorem subR_comm : ∀ {b h g : List Int} {j k : Int}, subR (subR b h j) g k = subR (subR b g k) h j
  | [], _, _, _, _ => by simp [subR]
  | _ :: _, [], g, _, _ => by cases g <;> simp [subR]
  | _ :: _, _ :: _, [], _, _ => by simp [subR]
  | x :: b, y :: h, z :: g, j, k => by
    rw [subR_cons, subR_cons, subR_cons, subR_cons, subR_comm]
    congr 1
    omega
theorem subR_sum : ∀ {b h : List Int} {k : Int}, b.length = h.length → (subR b h k).sum = b.sum - k * h.sum
  | [], [], k, _ => by simp [subR]
  | x :: b, y :: h, k, e => by
    rw [subR_cons, List.sum_cons, List.sum_cons, List.sum_cons, subR_sum (by simpa using e), Int.mul_add]
    omega
  | [], _ :: _, _, e => by simp at e
  | _ :: _, [], _, e => by simp at e
theorem sum_nn : ∀ {b : List Int}, (∀ n ∈ b, 0 ≤ n) → 0 ≤ b.sum
  | [], _ => Int.le_refl _
  | x :: b, h => by
    rw [List.sum_cons]
    have := h x List.mem_cons_self
    have := sum_nn fun n hn => h n (List.mem_cons_of_mem _ hn)
    omega
theorem sum_kd {g : Nat} {h : List Int} (k : Kd g h) : 1 ≤ h.sum := by
  have k2 := k.2.1
  obtain ⟨n, hn, hp⟩ := k.2.2
  clear k
  induction h with
  | nil => cases hn
  | cons x h ih =>
    rw [List.sum_cons]
    have x0 := k2 x List.mem_cons_self
    have r0 := sum_nn fun n hn => k2 n (List.mem_cons_of_mem _ hn)
    rcases List.mem_cons.mp hn with e | e
    · omega
    · have := ih (fun n hn => k2 n (List.mem_cons_of_mem _ hn)) e
      omega
/-- what is below 0 somewhere stays so -/
theorem sub_neg : ∀ {b h : List Int} {k : Int}, b.length = h.length → (∀ n ∈ h, 0 ≤ n) → 0 ≤ k → nnB b = false → nnB (subR b h k) = false
  | [], [], _, _, _, _, e => by cases e
  | x :: b, y :: h, k, el, hn, hk, e => by
    unfold nnB at e ⊢
    rw [subR_cons, List.all_cons]
    rw [List.all_cons] at e
    have y0 := hn y List.mem_cons_self
    by_cases c : 0 ≤ x
    · rw [decide_eq_true c, Bool.true_and] at e
      have := sub_neg (b := b) (h := h) (k := k) (by simpa using el) (fun n hn' => hn n (List.mem_cons_of_mem _ hn')) hk e
      unfold nnB at this
      rw [this, Bool.and_false]
    · have : ¬ 0 ≤ x - k * y := by
        have := Int.mul_nonneg hk y0
        omega
      rw [decide_eq_false this, Bool.false_and]
  | [], _ :: _, _, e, _, _, _ => by simp at e
  | _ :: _, [], _, e, _, _, _ => by simp at e
theorem cnt_neg {g : Nat} : ∀ {l : List (List Int)} {b : List Int}, (∀ h ∈ l, Kd g h) → b.length = g → nnB b = false → cnt l b = 0
  | [], b, _, _, e => by
    unfold cnt
    rw [if_neg fun z => ?_]
    have : nnB b = true := nnB_iff.mpr fun n hn => by rw [zeroB_iff.mp z n hn]; exact Int.le_refl _
    rw [this] at e
    cases e
  | h :: t, b, hl, hb, e => by
    unfold cnt
    have kh := hl h List.mem_cons_self
    refine sum_zeroN fun x hx => ?_
    obtain ⟨k, _, rfl⟩ := List.mem_map.mp hx
    have eb : b.length = h.length := by rw [hb, kh.1]
    exact cnt_neg (fun h' hh => hl h' (List.mem_cons_of_mem _ hh)) (by rw [subR_len eb, hb]) (sub_neg eb kh.2.1 (by omega) e)
theorem sum_range_zero (f : Nat → Nat) {m : Nat} : ∀ {n : Nat}, (∀ k, m ≤ k → f k = 0) → m ≤ n → ((List.range n).map f).sum = ((List.range m).map f).sum
  | 0, _, h => by rw [Nat.le_zero.mp h]
  | n + 1, hf, h => by
    by_cases c : m = n + 1
    · rw [c]
    · rw [List.range_succ, List.map_append, List.sum_append, sum_range_zero f hf (by omega)]
      simp [hf n (by omega)]
theorem sub_far {g : Nat} {b h : List Int} {k : Nat} (kh : Kd g h) (hb : b.length = g) (hk : b.sum.toNat < k) : nnB (subR b h (k : Int)) = false := by
  have eb : b.length = h.length := by rw [hb, kh.1]
  cases e : nnB (subR b h (k : Int)) with
  | false => rfl
  | true =>
    have h0 := sum_nn (nnB_iff.mp e)
    rw [subR_sum eb] at h0
    have h1 := sum_kd kh
    have : (k : Int) * 1 ≤ (k : Int) * h.sum := Int.mul_le_mul_of_nonneg_left h1 (by omega)
    omega
/-- any number of turns that is great enough -/
theorem cnt_to {g : Nat} {h : List Int} {t : List (List Int)} {b : List Int} {m : Nat} (hl : ∀ x ∈ h :: t, Kd g x) (hb : b.length = g) (hm : b.sum.toNat + 1 ≤ m) : cnt (h :: t) b = ((List.range m).map fun (k : Nat) => cnt t (subR b h (k : Int))).sum := by
  have kh := hl h List.mem_cons_self
  have eb : b.length = h.length := by rw [hb, kh.1]
  rw [show cnt (h :: t) b = ((List.range (b.sum.toNat + 1)).map fun (k : Nat) => cnt t (subR b h (k : Int))).sum from rfl]
  exact (sum_range_zero _ (fun k hk => cnt_neg (fun x hx => hl x (List.mem_cons_of_mem _ hx)) (by rw [subR_len eb, hb]) (sub_far kh hb (by omega))) hm).symm
theorem sum_range_shift (f : Nat → Nat) (n : Nat) : ((List.range (n + 1)).map f).sum = f 0 + ((List.range n).map fun k => f (k + 1)).sum := by
  rw [List.range_succ_eq_map, List.map_cons, List.sum_cons, List.map_map]
  rfl
theorem sub_sum_le {g : Nat} {b h : List Int} (kh : Kd g h) (hb : b.length = g) : (subR b h 1).sum.toNat + 1 ≤ b.sum.toNat + 1 := by
  have eb : b.length = h.length := by rw [hb, kh.1]
  rw [subR_sum eb]
  have := sum_kd kh
  omega
/-- the table's own row: without the kind, and with one hamper of it taken out -/
theorem cnt_step {g : Nat} {h : List Int} {t : List (List Int)} {b : List Int} (hl : ∀ x ∈ h :: t, Kd g x) (hb : b.length = g) : cnt (h :: t) b = cnt t b + cnt (h :: t) (subR b h 1) := by
  have kh := hl h List.mem_cons_self
  have eb : b.length = h.length := by rw [hb, kh.1]
  rw [cnt_to hl hb (m := b.sum.toNat + 1 + 1) (by omega), sum_range_shift, show ((0 : Nat) : Int) = 0 from rfl, subR_zero eb, cnt_to hl (by rw [subR_len eb, hb]) (sub_sum_le kh hb)]
  congr 2
  refine List.map_congr_left fun k _ => ?_
  rw [subR_add]
  congr 2
  omega
theorem sum_map_add (f g : Nat → Nat) : ∀ l : List Nat, (l.map fun k => f k + g k).sum = (l.map f).sum + (l.map g).sum
  | [] => rfl
  | x :: l => by
    rw [List.map_cons, List.map_cons, List.map_cons, List.sum_cons, List.sum_cons, List.sum_cons, sum_map_add f g l]
    omega
/-- the same of any kind of the lot -/
theorem cnt_cut {g : Nat} : ∀ {l : List (List Int)} {b : List Int} {i : Nat} {h : List Int}, (∀ x ∈ l, Kd g x) → b.length = g → l[i]? = some h → cnt l b = cnt (l.take i ++ l.drop (i + 1)) b + cnt l (subR b h 1)
  | [], _, _, _, _, _, e => by simp at e
  | x :: l, b, 0, h, hl, hb, e => by
    cases Option.some.inj e
    exact cnt_step hl hb
  | x :: l, b, i + 1, h, hl, hb, e => by
    have e' : l[i]? = some h := e
    have kx := hl x List.mem_cons_self
    have kh : Kd g h := hl h (List.mem_cons_of_mem _ (List.mem_of_getElem? e'))
    have ebx : b.length = x.length := by rw [hb, kx.1]
    have ebh : b.length = h.length := by rw [hb, kh.1]
    have hl' : ∀ y ∈ l, Kd g y := fun y hy => hl y (List.mem_cons_of_mem _ hy)
    have hlc : ∀ y ∈ x :: (l.take i ++ l.drop (i + 1)), Kd g y := fun y hy => by
      rcases List.mem_cons.mp hy with h | h
      · rw [h]; exact kx
      · rcases List.mem_append.mp h with h | h
        · exact hl' y (List.mem_of_mem_take h)
        · exact hl' y (List.mem_of_mem_drop h)
    show cnt (x :: l) b = cnt (x :: (l.take i ++ l.drop (i + 1))) b + cnt (x :: l) (subR b h 1)
    rw [cnt_to hl hb (Nat.le_refl _), cnt_to hlc hb (Nat.le_refl _), cnt_to hl (by rw [subR_len ebh, hb]) (sub_sum_le kh hb), ← sum_map_add]
    congr 1
    refine List.map_congr_left fun k _ => ?_
    have := cnt_cut hl' (b := subR b x (k : Int)) (by rw [subR_len ebx, hb]) e'
    rw [this, subR_comm]
/-- nothing of no goods -/
theorem cnt_nought {g : Nat} : ∀ {l : List (List Int)} {b : List Int}, (∀ x ∈ l, Kd g x) → b.length = g → zeroB b = true → cnt l b = 1
  | [], b, _, _, e => by
    unfold cnt
    rw [if_pos e]
  | h :: t, b, hl, hb, e => by
    have kh := hl h List.mem_cons_self
    have eb : b.length = h.length := by rw [hb, kh.1]
    have es : b.sum = 0 := by
      clear hb eb hl
      induction b with
      | nil => rfl
      | cons x b ih =>
        rw [List.sum_cons, zeroB_iff.mp e x List.mem_cons_self, ih (zeroB_iff.mpr fun n hn => zeroB_iff.mp e n (List.mem_cons_of_mem _ hn))]
        rfl
    rw [cnt_step hl hb, cnt_nought (fun x hx => hl x (List.mem_cons_of_mem _ hx)) hb e, cnt_neg (l := h :: t) hl (by rw [subR_len eb, hb])]
    have := sub_far (k := 1) kh hb (by rw [es]; decide)
    exact this
/-- where something is made of something, some kind goes in -/
theorem cnt_some {g : Nat} {b : List Int} (hb : b.length = g) (hz : zeroB b = false) : ∀ {l : List (List Int)}, (∀ x ∈ l, Kd g x) → (∀ h ∈ l, nnB (subR b h 1) = false) → cnt l b = 0
  | [], _, _ => by
    unfold cnt
    rw [hz]
    rfl
  | h :: t, hl, hn => by
    have kh := hl h List.mem_cons_self
    have eb : b.length = h.length := by rw [hb, kh.1]
    rw [cnt_step hl hb, cnt_some hb hz (fun x hx => hl x (List.mem_cons_of_mem _ hx)) (fun x hx => hn x (List.mem_cons_of_mem _ hx)), cnt_neg (l := h :: t) hl (by rw [subR_len eb, hb]) (hn h List.mem_cons_self)]
/-- the last kind first -/
theorem cnt_last {g : Nat} {h : List Int} (kh : Kd g h) : ∀ {l : List (List Int)} {b : List Int} {m : Nat}, (∀ x ∈ l, Kd g x) → b.length = g → b.sum.toNat + 1 ≤ m → cnt (l ++ [h]) b = ((List.range m).map fun (k : Nat) => cnt l (subR b h (k : Int))).sum
  | [], b, m, _, hb, hm => cnt_to (fun x hx => by rw [List.mem_singleton.mp hx]; exact kh) hb hm
  | x :: l, b, m, hl, hb, hm => by
    have kx := hl x List.mem_cons_self
    have ebx : b.length = x.length := by rw [hb, kx.1]
    have ebh : b.length = h.length := by rw [hb, kh.1]
    have hl' : ∀ y ∈ l, Kd g y := fun y hy => hl y (List.mem_cons_of_mem _ hy)
    have hlh : ∀ y ∈ x :: (l ++ [h]), Kd g y := fun y hy => by
      rcases List.mem_cons.mp hy with e | e
      · rw [e]; exact kx
      · rcases List.mem_append.mp e with e | e
        · exact hl' y e
        · rw [List.mem_singleton.mp e]; exact kh
    have small : ∀ (z : List Int) (k : Nat), Kd g z → (subR b z (k : Int)).sum.toNat + 1 ≤ m := fun z k kz => by
      rw [subR_sum (by rw [hb, kz.1])]
      have := sum_kd kz
      have : 0 ≤ (k : Int) * z.sum := Int.mul_nonneg (by omega) (by omega)
      omega
    show cnt (x :: (l ++ [h])) b = _
    rw [cnt_to hlh hb hm]
    have e1 : ∀ j : Nat, cnt (l ++ [h]) (subR b x (j : Int)) = ((List.range m).map fun (k : Nat) => cnt l (subR (subR b x (j : Int)) h (k : Int))).sum := fun j =>
      cnt_last kh hl' (by rw [subR_len ebx, hb]) (small x j kx)
    have e2 : ∀ k : Nat, cnt (x :: l) (subR b h (k : Int)) = ((List.range m).map fun (j : Nat) => cnt l (subR (subR b x (j : Int)) h (k : Int))).sum := fun k => by
      rw [cnt_to hl (by rw [subR_len ebh, hb]) (small h k kh)]
      congr 1
      refine List.map_congr_left fun j _ => ?_
      rw [subR_comm]
    rw [show ((List.range m).map fun (k : Nat) => cnt (l ++ [h]) (subR b x (k : Int))) = ((List.range m).map fun (j : Nat) => ((List.range m).map fun (k : Nat) => cnt l (subR (subR b x (j : Int)) h (k : Int))).sum) from List.map_congr_left fun j _ => e1 j,
      show ((List.range m).map fun (k : Nat) => cnt (x :: l) (subR b h (k : Int))) = ((List.range m).map fun (k : Nat) => ((List.range m).map fun (j : Nat) => cnt l (subR (subR b x (j : Int)) h (k : Int))).sum) from List.map_congr_left fun k _ => e2 k]
    generalize List.range m = rs
    have swap : ∀ (xs ys : List Nat) (f : Nat → Nat → Nat), (xs.map fun j => (ys.map fun k => f j k).sum).sum = (ys.map fun k => (xs.map fun j => f j k).sum).sum := fun xs ys f => by
      induction xs with
      | nil =>
        rw [List.map_nil, List.sum_nil]
        refine (sum_zeroN fun z hz => ?_).symm
        obtain ⟨k, _, rfl⟩ := List.mem_map.mp hz
        rfl
      | cons x xs ih =>
        rw [List.map_cons, List.sum_cons, ih, ← sum_map_add]
        rfl
    exact swap rs rs fun j k => cnt l (subR (subR b x (j : Int)) h (k : Int))
/-! ### two lots beside one another -/
theorem subR_app {b1 b2 h1 h2 : List Int} {k : Int} (e : b1.length = h1.length) : subR (b1 ++ b2) (h1 ++ h2) k = subR b1 h1 k ++ subR b2 h2 k := by
  unfold subR
  rw [List.zip_append e, List.map_append]
theorem subR_nought : ∀ {b : List Int} {n : Nat} {k : Int}, b.length = n → subR b (List.replicate n 0) k = b
  | [], 0, _, _ => rfl
  | x :: b, n + 1, k, e => by
    rw [List.replicate_succ, subR_cons, subR_nought (by simpa using e), Int.mul_zero, Int.sub_zero]
  | [], n + 1, _, e => by simp at e
  | _ :: _, 0, _, e => by simp at e
theorem zero_app {b1 b2 : List Int} : zeroB (b1 ++ b2) = (zeroB b1 && zeroB b2) := by
  unfold zeroB
  rw [List.all_append]
theorem kd_left {g w : Nat} {h : List Int} (k : Kd g h) : Kd (g + w) (h ++ List.replicate w 0) :=
  ⟨by rw [List.length_append, List.length_replicate, k.1], fun n hn => by
    rcases List.mem_append.mp hn with e | e
    · exact k.2.1 n e
    · rw [List.eq_of_mem_replicate e]
      exact Int.le_refl _, let ⟨n, h1, h2⟩ := k.2.2; ⟨n, List.mem_append_left _ h1, h2⟩⟩
theorem kd_right {g w : Nat} {h : List Int} (k : Kd g h) : Kd (w + g) (List.replicate w 0 ++ h) :=
  ⟨by rw [List.length_append, List.length_replicate, k.1], fun n hn => by
    rcases List.mem_append.mp hn with e | e
    · rw [List.eq_of_mem_replicate e]
      exact Int.le_refl _
    · exact k.2.1 n e, let ⟨n, h1, h2⟩ := k.2.2; ⟨n, List.mem_append_right _ h1, h2⟩⟩
theorem sum_mul (f : Nat → Nat) (c : Nat) : ∀ l : List Nat, (l.map fun k => c * f k).sum = c * (l.map f).sum
  | [] => rfl
  | x :: l => by rw [List.map_cons, List.map_cons, List.sum_cons, List.sum_cons, sum_mul f c l, Nat.mul_add]
theorem sum_mul' (f : Nat → Nat) (c : Nat) : ∀ l : List Nat, (l.map fun k => f k * c).sum = (l.map f).sum * c
  | [] => by simp
  | x :: l => by rw [List.map_cons, List.map_cons, List.sum_cons, List.sum_cons, sum_mul' f c l, Nat.add_mul]
theorem cnt_right {g w : Nat} {b1 : List Int} (hb1 : b1.length = w) (n1 : ∀ n ∈ b1, 0 ≤ n) : ∀ {l : List (List Int)} {b2 : List Int}, (∀ x ∈ l, Kd g x) → b2.length = g → (∀ n ∈ b2, 0 ≤ n) → cnt (l.map fun r => List.replicate w 0 ++ r) (b1 ++ b2) = (if zeroB b1 = true then 1 else 0) * cnt l b2
  | [], b2, _, _, _ => by
    show cnt [] (b1 ++ b2) = _
    unfold cnt
    rw [zero_app]
    cases zeroB b1 <;> cases zeroB b2 <;> rfl
  | h :: t, b2, hl, hb2, n2 => by
    have kh := hl h List.mem_cons_self
    have hl' : ∀ x ∈ t, Kd g x := fun x hx => hl x (List.mem_cons_of_mem _ hx)
    have hlm : ∀ x ∈ (List.replicate w 0 ++ h) :: (t.map fun r => List.replicate w 0 ++ r), Kd (w + g) x := fun x hx => by
      rcases List.mem_cons.mp hx with e | e
      · rw [e]; exact kd_right kh
      · obtain ⟨r, h1, rfl⟩ := List.mem_map.mp e
        exact kd_right (hl' r h1)
    have es : b2.sum.toNat + 1 ≤ (b1 ++ b2).sum.toNat + 1 := by
      rw [List.sum_append]
      have := sum_nn n1
      omega
    rw [List.map_cons, cnt_to hlm (by rw [List.length_append, hb1, hb2]) (Nat.le_refl _), cnt_to hl hb2 es, ← sum_mul]
    congr 1
    refine List.map_congr_left fun k _ => ?_
    rw [subR_app (by rw [hb1, List.length_replicate]), subR_nought hb1]
    by_cases c : nnB (subR b2 h (k : Int)) = true
    · exact cnt_right hb1 n1 hl' (by rw [subR_len (by rw [hb2, kh.1]), hb2]) (nnB_iff.mp c)
    · have c' := Bool.eq_false_iff.mpr c
      rw [cnt_neg (g := w + g) (fun x hx => hlm x (List.mem_cons_of_mem _ hx)) (by rw [List.length_append, hb1, subR_len (by rw [hb2, kh.1]), hb2]) ?_, cnt_neg hl' (by rw [subR_len (by rw [hb2, kh.1]), hb2]) c', Nat.mul_zero]
      unfold nnB at c' ⊢
      rw [List.all_append, c', Bool.and_false]
theorem cnt_beside {g1 g2 : Nat} {l2 : List (List Int)} {b2 : List Int} (h2 : ∀ x ∈ l2, Kd g2 x) (hb2 : b2.length = g2) (n2 : ∀ n ∈ b2, 0 ≤ n) : ∀ {l1 : List (List Int)} {b1 : List Int}, (∀ x ∈ l1, Kd g1 x) → b1.length = g1 → (∀ n ∈ b1, 0 ≤ n) →
    cnt ((l1.map fun r => r ++ List.replicate g2 0) ++ l2.map fun r => List.replicate g1 0 ++ r) (b1 ++ b2) = cnt l1 b1 * cnt l2 b2
  | [], b1, _, hb1, n1 => by
    rw [List.map_nil, List.nil_append, cnt_right hb1 n1 h2 hb2 n2]
    rfl
  | h :: t, b1, hl, hb1, n1 => by
    have kh := hl h List.mem_cons_self
    have hl' : ∀ x ∈ t, Kd g1 x := fun x hx => hl x (List.mem_cons_of_mem _ hx)
    have hlm : ∀ x ∈ (h ++ List.replicate g2 0) :: ((t.map fun r => r ++ List.replicate g2 0) ++ l2.map fun r => List.replicate g1 0 ++ r), Kd (g1 + g2) x := fun x hx => by
      rcases List.mem_cons.mp hx with e | e
      · rw [e]; exact kd_left kh
      · rcases List.mem_append.mp e with e | e
        · obtain ⟨r, q1, rfl⟩ := List.mem_map.mp e
          exact kd_left (hl' r q1)
        · obtain ⟨r, q1, rfl⟩ := List.mem_map.mp e
          exact kd_right (h2 r q1)
    have es : b1.sum.toNat + 1 ≤ (b1 ++ b2).sum.toNat + 1 := by
      rw [List.sum_append]
      have := sum_nn n2
      omega
    have eb : b1.length = h.length := by rw [hb1, kh.1]
    rw [List.map_cons, List.cons_append, cnt_to hlm (by rw [List.length_append, hb1, hb2]) (Nat.le_refl _), cnt_to hl hb1 es, ← sum_mul']
    congr 1
    refine List.map_congr_left fun k _ => ?_
    rw [subR_app eb, subR_nought hb2]
    by_cases c : nnB (subR b1 h (k : Int)) = true
    · exact cnt_beside h2 hb2 n2 hl' (by rw [subR_len eb, hb1]) (nnB_iff.mp c)
    · have c' := Bool.eq_false_iff.mpr c
      rw [cnt_neg (g := g1 + g2) (fun x hx => hlm x (List.mem_cons_of_mem _ hx)) (by rw [List.length_append, hb2, subR_len eb, hb1]) ?_, cnt_neg hl' (by rw [subR_len eb, hb1]) c', Nat.zero_mul]
      unfold nnB at c' ⊢
      rw [List.all_append, c', Bool.false_and]
end HL

namespace HL
/-! ### the cells of a bill, in their order -/
/-- the cells by the first i amounts -/
def cellsI (b : List Int) : Nat → List (List Int)
  | 0 => [[]]
  | i + 1 => (cellsI b i).flatMap fun c => (List.range (b.getD i 0 + 1).toNat).map fun (p : Nat) => c ++ [(p : Int)]
def Bel : List Int → List Int → Prop
  | [], [] => True
  | x :: r, y :: b => (0 ≤ x ∧ x ≤ y) ∧ Bel r b
  | _, _ => False
def lx : List Int → List Int → Prop
  | x :: r, y :: s => x < y ∨ (x = y ∧ lx r s)
  | _, _ => False
theorem Bel.len : ∀ {r b : List Int}, Bel r b → r.length = b.length
  | [], [], _ => rfl
  | x :: r, y :: b, h => by rw [List.length_cons, List.length_cons, Bel.len h.2]
  | [], _ :: _, h => h.elim
  | _ :: _, [], h => h.elim
theorem Bel.nn : ∀ {r b : List Int}, Bel r b → ∀ n ∈ r, 0 ≤ n
  | [], [], _, n, hn => by cases hn
  | x :: r, y :: b, h, n, hn => by
    rcases List.mem_cons.mp hn with e | e
    · rw [e]; exact h.1.1
    · exact Bel.nn h.2 n e
  | [], _ :: _, h, _, _ => h.elim
  | _ :: _, [], h, _, _ => h.elim
theorem Bel.snoc {x a : Int} (h0 : 0 ≤ x) (h1 : x ≤ a) : ∀ {r b : List Int}, Bel r b → Bel (r ++ [x]) (b ++ [a])
  | [], [], _ => ⟨⟨h0, h1⟩, True.intro⟩
  | y :: r, z :: b, h => ⟨h.1, Bel.snoc h0 h1 h.2⟩
  | [], _ :: _, h => h.elim
  | _ :: _, [], h => h.elim
theorem Bel.unsnoc {a : Int} : ∀ {b r : List Int}, Bel r (b ++ [a]) → ∃ c x, r = c ++ [x] ∧ Bel c b ∧ 0 ≤ x ∧ x ≤ a
  | [], [x], h => ⟨[], x, rfl, True.intro, h.1.1, h.1.2⟩
  | [], x :: y :: r, h => h.2.elim
  | [], [], h => h.elim
  | z :: b, x :: r, h => by
    obtain ⟨c, y, e, h1, h2⟩ := Bel.unsnoc (b := b) h.2
    exact ⟨x :: c, y, by rw [e]; rfl, ⟨h.1, h1⟩, h2⟩
  | z :: b, [], h => h.elim
theorem Bel.self : ∀ {b : List Int}, (∀ n ∈ b, 0 ≤ n) → Bel b b
  | [], _ => True.intro
  | x :: b, h => ⟨⟨h x List.mem_cons_self, Int.le_refl _⟩, Bel.self fun n hn => h n (List.mem_cons_of_mem _ hn)⟩
theorem take_snoc {b : List Int} {i : Nat} (h : i < b.length) : b.take (i + 1) = b.take i ++ [b.getD i 0] := by
  rw [List.take_add_one, List.getElem?_eq_getElem h, List.getD_eq_getElem?_getD, List.getElem?_eq_getElem h]
  rfl
theorem cells_mem {b : List Int} (hb : ∀ n ∈ b, 0 ≤ n) : ∀ {i : Nat}, i ≤ b.length → ∀ r, r ∈ cellsI b i ↔ Bel r (b.take i)
  | 0, _, r => by
    rw [List.take_zero]
    show r ∈ [[]] ↔ _
    rw [List.mem_singleton]
    constructor
    · intro e
      rw [e]
      exact True.intro
    · intro h
      cases r with
      | nil => rfl
      | cons x r => exact h.elim
  | i + 1, hi, r => by
    have hg : 0 ≤ b.getD i 0 := by
      rw [List.getD_eq_getElem?_getD, List.getElem?_eq_getElem (show i < b.length by omega)]
      exact hb _ (List.getElem_mem _)
    rw [take_snoc (by omega)]
    show r ∈ (cellsI b i).flatMap _ ↔ _
    rw [List.mem_flatMap]
    constructor
    · rintro ⟨c, hc, hr⟩
      obtain ⟨p, hp, rfl⟩ := List.mem_map.mp hr
      have := List.mem_range.mp hp
      exact ((cells_mem hb (by omega) c).mp hc).snoc (by omega) (by omega)
    · intro h
      obtain ⟨c, x, rfl, h1, h2, h3⟩ := Bel.unsnoc h
      exact ⟨c, (cells_mem hb (by omega) c).mpr h1, List.mem_map.mpr ⟨x.toNat, List.mem_range.mpr (by omega), by rw [Int.toNat_of_nonneg h2]⟩⟩
theorem lx_app : ∀ {c c' d d' : List Int}, c.length = c'.length → lx c c' → lx (c ++ d) (c' ++ d')
  | x :: c, y :: c', d, d', e, h => by
    rcases h with h | ⟨h1, h2⟩
    · exact .inl h
    · exact .inr ⟨h1, lx_app (by simpa using e) h2⟩
  | [], [], _, _, _, h => h.elim
  | [], _ :: _, _, _, _, h => h.elim
  | _ :: _, [], _, _, _, h => h.elim
theorem lx_last {x y : Int} (h : x < y) : ∀ {c : List Int}, lx (c ++ [x]) (c ++ [y])
  | [] => .inl h
  | z :: c => .inr ⟨rfl, lx_last h⟩
theorem lx_asymm : ∀ {r s : List Int}, lx r s → lx s r → False
  | x :: r, y :: s, h, k => by
    rcases h with h | ⟨h1, h2⟩
    · rcases k with k | ⟨k1, _⟩
      · omega
      · omega
    · rcases k with k | ⟨_, k2⟩
      · omega
      · exact lx_asymm h2 k2
  | [], _, h, _ => h.elim
  | _ :: _, [], h, _ => h.elim
theorem lx_sub : ∀ {c h : List Int}, c.length = h.length → (∀ n ∈ h, 0 ≤ n) → (∃ n ∈ h, 0 < n) → lx (subR c h 1) c
  | [], [], _, _, ⟨n, hn, _⟩ => by cases hn
  | x :: c, y :: h, e, h0, ⟨n, hn, hp⟩ => by
    rw [subR_cons]
    have y0 := h0 y List.mem_cons_self
    by_cases z : 0 < y
    · exact .inl (by omega)
    · refine .inr ⟨by omega, lx_sub (by simpa using e) (fun m hm => h0 m (List.mem_cons_of_mem _ hm)) ⟨n, ?_, hp⟩⟩
      rcases List.mem_cons.mp hn with q | q
      · omega
      · exact q
  | [], _ :: _, e, _, _ => by simp at e
  | _ :: _, [], e, _, _ => by simp at e
theorem cells_len {b : List Int} : ∀ {i : Nat} {r : List Int}, r ∈ cellsI b i → r.length = i
  | 0, r, h => by rw [List.mem_singleton.mp h]; rfl
  | i + 1, r, h => by
    obtain ⟨c, hc, hr⟩ := List.mem_flatMap.mp h
    obtain ⟨p, _, rfl⟩ := List.mem_map.mp hr
    rw [List.length_append, cells_len hc]
    rfl
theorem cells_rise {b : List Int} : ∀ {i : Nat}, (cellsI b i).Pairwise lx
  | 0 => List.pairwise_singleton _ _
  | i + 1 => by
    show ((cellsI b i).flatMap _).Pairwise lx
    rw [List.pairwise_flatMap]
    refine ⟨fun c _ => ?_, (cells_rise (i := i)).imp_of_mem fun {c c'} hc hc' h x hx y hy => ?_⟩
    · rw [List.pairwise_map]
      exact (List.pairwise_lt_range).imp fun {p q} h => lx_last (by omega)
    · obtain ⟨p, _, rfl⟩ := List.mem_map.mp hx
      obtain ⟨q, _, rfl⟩ := List.mem_map.mp hy
      exact lx_app (by rw [cells_len hc, cells_len hc']) h
theorem flat_len {α β : Type} {f : α → List β} {n : Nat} : ∀ {l : List α}, (∀ x ∈ l, (f x).length = n) → (l.flatMap f).length = l.length * n
  | [], _ => by simp
  | x :: l, h => by
    rw [List.flatMap_cons, List.length_append, h x List.mem_cons_self, flat_len fun y hy => h y (List.mem_cons_of_mem _ hy), List.length_cons, Nat.add_mul]
    omega
theorem cells_many {b : List Int} {i : Nat} : (cellsI b (i + 1)).length = (cellsI b i).length * (b.getD i 0 + 1).toNat :=
  flat_len fun c _ => by rw [List.length_map, List.length_range]
theorem cells_head {b : List Int} (hb : ∀ n ∈ b, 0 ≤ n) : ∀ {i : Nat}, i ≤ b.length → (cellsI b i)[0]? = some (List.replicate i 0)
  | 0, _ => rfl
  | i + 1, hi => by
    have hg : 0 ≤ b.getD i 0 := by
      rw [List.getD_eq_getElem?_getD, List.getElem?_eq_getElem (show i < b.length by omega)]
      exact hb _ (List.getElem_mem _)
    have ih := cells_head hb (i := i) (by omega)
    show ((cellsI b i).flatMap _)[0]? = _
    cases e : cellsI b i with
    | nil => rw [e] at ih; cases ih
    | cons c cs =>
      rw [e] at ih
      cases Option.some.inj ih
      rw [List.flatMap_cons]
      obtain ⟨m, hm⟩ : ∃ m, (b.getD i 0 + 1).toNat = m + 1 := ⟨(b.getD i 0).toNat, by omega⟩
      rw [hm, List.range_succ_eq_map, List.map_cons, List.cons_append]
      show some (List.replicate i 0 ++ [((0 : Nat) : Int)]) = _
      rw [List.replicate_succ']
      rfl
/-- a cell less a kind stands ahead of it, where it is one -/
theorem cell_ahead {b : List Int} (hb : ∀ n ∈ b, 0 ≤ n) {i : Nat} {c h : List Int} (kh : Kd b.length h) (hc : (cellsI b b.length)[i]? = some c) (hn : nnB (subR c h 1) = true) : subR c h 1 ∈ (cellsI b b.length).take i := by
  have hcm := (cells_mem hb (Nat.le_refl _) c).mp (List.mem_of_getElem? hc)
  rw [List.take_length] at hcm
  have hl : c.length = h.length := by rw [hcm.len, kh.1]
  have below : ∀ {c b h : List Int}, Bel c b → c.length = h.length → (∀ n ∈ h, 0 ≤ n) → nnB (subR c h 1) = true → Bel (subR c h 1) b := by
    intro c
    induction c with
    | nil =>
      intro b h hb hl _ _
      cases b with
      | nil => exact True.intro
      | cons y b => exact hb.elim
    | cons x c ih =>
      intro b h hb hl h0 hn
      cases b with
      | nil => exact hb.elim
      | cons y b =>
        cases h with
        | nil => simp at hl
        | cons z h =>
          rw [subR_cons] at hn ⊢
          unfold nnB at hn
          rw [List.all_cons, Bool.and_eq_true] at hn
          have n1 := of_decide_eq_true hn.1
          have z0 := h0 z List.mem_cons_self
          exact ⟨⟨n1, by have := hb.1.2; omega⟩, ih hb.2 (by simpa using hl) (fun n hn' => h0 n (List.mem_cons_of_mem _ hn')) hn.2⟩
  have hm : subR c h 1 ∈ cellsI b b.length := (cells_mem hb (Nat.le_refl _) _).mpr (by rw [List.take_length]; exact below hcm hl kh.2.1 hn)
  have hlt := lx_sub hl kh.2.1 kh.2.2
  obtain ⟨j, hj, ej⟩ := List.mem_iff_getElem.mp hm
  obtain ⟨hi, ei⟩ := List.getElem?_eq_some_iff.mp hc
  have pw := List.pairwise_iff_getElem.mp (cells_rise (b := b) (i := b.length))
  by_cases c1 : j < i
  · exact List.mem_iff_getElem.mpr ⟨j, by rw [List.length_take]; omega, by rw [List.getElem_take]; exact ej⟩
  · exfalso
    by_cases c2 : j = i
    · subst c2
      have e : subR c h 1 = c := ej.symm.trans ei
      rw [e] at hlt
      exact lx_asymm hlt hlt
    · have := pw i j hi hj (by omega)
      rw [ei, ej] at this
      exact lx_asymm this hlt
end HL

namespace HL
/-! the fillings of a bill, in their order; their places -/
def fils : List (List Int) → List Int → List (List Int)
  | [], b => if zeroB b = true then [[]] else []
  | h :: t, b => (List.range (b.sum.toNat + 1)).flatMap fun (k : Nat) => (fils t (subR b h (k : Int))).map fun c => (k : Int) :: c
/-- counts that come to a bill, none below 0 -/
def Comes : List (List Int) → List Int → List Int → Prop
  | [], [], b => zeroB b = true
  | h :: t, k :: c, b => 0 ≤ k ∧ Comes t c (subR b h k)
  | _, _, _ => False
theorem len_flat {α : Type} (f : Nat → List α) : ∀ l : List Nat, (l.flatMap f).length = (l.map fun k => (f k).length).sum
  | [] => rfl
  | x :: l => by rw [List.flatMap_cons, List.length_append, List.map_cons, List.sum_cons, len_flat f l]
theorem fils_len : ∀ (l : List (List Int)) (b : List Int), (fils l b).length = cnt l b
  | [], b => by
    unfold fils cnt
    split <;> rfl
  | h :: t, b => by
    unfold fils cnt
    rw [len_flat]
    congr 1
    refine List.map_congr_left fun k _ => ?_
    rw [List.length_map, fils_len t _]
theorem comes_len : ∀ {l : List (List Int)} {c b : List Int}, Comes l c b → c.length = l.length
  | [], [], _, _ => rfl
  | [], _ :: _, _, h => h.elim
  | _ :: _, [], _, h => h.elim
  | h :: t, k :: c, b, q => by rw [List.length_cons, List.length_cons, comes_len q.2]
theorem comes_nn : ∀ {l : List (List Int)} {c b : List Int}, Comes l c b → ∀ n ∈ c, 0 ≤ n
  | [], [], _, _ => fun n hn => by cases hn
  | [], _ :: _, _, h => h.elim
  | _ :: _, [], _, h => h.elim
  | h :: t, k :: c, b, q => fun n hn => by
    rcases List.mem_cons.mp hn with e | e
    · rw [e]; exact q.1
    · exact comes_nn q.2 n e
/-- what comes to a bill is not below 0 -/
theorem comes_bill {g : Nat} : ∀ {l : List (List Int)} {c b : List Int}, (∀ h ∈ l, Kd g h) → b.length = g → Comes l c b → nnB b = true
  | [], [], b, _, _, q => nnB_iff.mpr fun n hn => by rw [zeroB_iff.mp q n hn]; exact Int.le_refl _
  | [], _ :: _, _, _, _, h => h.elim
  | _ :: _, [], _, _, _, h => h.elim
  | h :: t, k :: c, b, hl, hb, q => by
    have kh := hl h List.mem_cons_self
    have eb : b.length = h.length := by rw [hb, kh.1]
    have r := comes_bill (fun x hx => hl x (List.mem_cons_of_mem _ hx)) (by rw [subR_len eb, hb]) q.2
    cases e : nnB b with
    | true => rfl
    | false =>
      rw [sub_neg eb kh.2.1 q.1 e] at r
      cases r
theorem fils_mem {g : Nat} : ∀ {l : List (List Int)} {b c : List Int}, (∀ h ∈ l, Kd g h) → b.length = g → (c ∈ fils l b ↔ Comes l c b)
  | [], b, c, _, _ => by
    unfold fils
    cases e : zeroB b with
    | true =>
      rw [if_pos rfl, List.mem_singleton]
      cases c with
      | nil => exact ⟨fun _ => e, fun _ => rfl⟩
      | cons k c => exact ⟨fun h => (by cases h), fun h => h.elim⟩
    | false =>
      rw [if_neg (by decide)]
      cases c with
      | nil => exact ⟨fun h => (by cases h), fun h => (by rw [show Comes [] [] b = (zeroB b = true) from rfl, e] at h; cases h)⟩
      | cons k c => exact ⟨fun h => (by cases h), fun h => h.elim⟩
  | h :: t, b, c, hl, hb => by
    have kh := hl h List.mem_cons_self
    have eb : b.length = h.length := by rw [hb, kh.1]
    have ht : ∀ x ∈ t, Kd g x := fun x hx => hl x (List.mem_cons_of_mem _ hx)
    unfold fils
    rw [List.mem_flatMap]
    constructor
    · rintro ⟨k, _, hk⟩
      obtain ⟨c', hc, rfl⟩ := List.mem_map.mp hk
      exact ⟨Int.natCast_nonneg k, (fils_mem ht (by rw [subR_len eb, hb])).mp hc⟩
    · intro q
      cases c with
      | nil => exact q.elim
      | cons k c =>
        obtain ⟨n, rfl⟩ : ∃ n : Nat, k = (n : Int) := ⟨k.toNat, by have := q.1; omega⟩
        have r := comes_bill ht (by rw [subR_len eb, hb]) q.2
        refine ⟨n, List.mem_range.mpr ?_, List.mem_map.mpr ⟨c, (fils_mem ht (by rw [subR_len eb, hb])).mpr q.2, rfl⟩⟩
        by_cases w : n < b.sum.toNat + 1
        · exact w
        · rw [sub_far kh hb (by omega)] at r
          cases r
theorem fils_rise : ∀ (l : List (List Int)) (b : List Int), (fils l b).Pairwise lx
  | [], b => by
    unfold fils
    split
    · exact List.pairwise_singleton _ _
    · exact .nil
  | h :: t, b => by
    unfold fils
    rw [List.pairwise_flatMap]
    refine ⟨fun k _ => ?_, ?_⟩
    · rw [List.pairwise_map]
      exact (fils_rise t _).imp fun {p q} h => .inr ⟨rfl, h⟩
    · refine List.pairwise_lt_range.imp fun {p q} hpq => ?_
      intro x hx y hy
      obtain ⟨x', _, rfl⟩ := List.mem_map.mp hx
      obtain ⟨y', _, rfl⟩ := List.mem_map.mp hy
      exact .inl (by omega)
/-- the place of counts among the fillings -/
def plc : List (List Int) → List Int → List Int → Nat
  | h :: t, k :: c, b => ((List.range k.toNat).map fun (j : Nat) => cnt t (subR b h (j : Int))).sum + plc t c (subR b h k)
  | _, _, _ => 0
theorem flat_at {α : Type} (f : Nat → List α) {x : α} {i : Nat} : ∀ {n k : Nat}, k < n → (f k)[i]? = some x → ((List.range n).flatMap f)[((List.range k).map fun j => (f j).length).sum + i]? = some x
  | 0, _, h, _ => absurd h (Nat.not_lt_zero _)
  | n + 1, k, h, e => by
    rw [List.range_succ, List.flatMap_append]
    have hi : i < (f k).length := (List.getElem?_eq_some_iff.mp e).1
    by_cases c : k = n
    · subst c
      rw [List.getElem?_append_right (by rw [len_flat]; omega), len_flat, Nat.add_sub_cancel_left, List.flatMap_cons, List.flatMap_nil, List.append_nil]
      exact e
    · have hk : k < n := by omega
      have r := flat_at f hk e
      rw [List.getElem?_append_left (List.getElem?_eq_some_iff.mp r).1]
      exact r
theorem plc_at {g : Nat} : ∀ {l : List (List Int)} {c b : List Int}, (∀ h ∈ l, Kd g h) → b.length = g → Comes l c b → (fils l b)[plc l c b]? = some c
  | [], [], b, _, _, q => by
    have q' : zeroB b = true := q
    unfold fils plc
    rw [if_pos q']
    rfl
  | [], _ :: _, _, _, _, h => h.elim
  | _ :: _, [], _, _, _, h => h.elim
  | h :: t, k :: c, b, hl, hb, q => by
    have kh := hl h List.mem_cons_self
    have eb : b.length = h.length := by rw [hb, kh.1]
    have ht : ∀ x ∈ t, Kd g x := fun x hx => hl x (List.mem_cons_of_mem _ hx)
    obtain ⟨n, rfl⟩ : ∃ n : Nat, k = (n : Int) := ⟨k.toNat, by have := q.1; omega⟩
    have r := comes_bill ht (by rw [subR_len eb, hb]) q.2
    have hn : n < b.sum.toNat + 1 := by
      by_cases w : n < b.sum.toNat + 1
      · exact w
      · rw [sub_far kh hb (by omega)] at r
        cases r
    have ih := plc_at ht (by rw [subR_len eb, hb]) q.2
    unfold fils plc
    have e := flat_at (fun (k : Nat) => (fils t (subR b h (k : Int))).map fun c => (k : Int) :: c) (x := (n : Int) :: c) (i := plc t c (subR b h (n : Int))) hn (by rw [List.getElem?_map, ih]; rfl)
    have es : ((List.range n).map fun j => ((fun (k : Nat) => (fils t (subR b h (k : Int))).map fun c => (k : Int) :: c) j).length).sum = ((List.range n).map fun (j : Nat) => cnt t (subR b h (j : Int))).sum := by
      congr 1
      refine List.map_congr_left fun j _ => ?_
      show ((fils t (subR b h (j : Int))).map fun c => (j : Int) :: c).length = _
      rw [List.length_map, fils_len]
    rw [es] at e
    rw [Int.toNat_natCast]
    exact e
end HL

namespace HL
/-! the law's own list of loads, kind by kind, and the fillings among them -/
def takes (b h : List Int) : List Nat := (List.range (b.sum.toNat + 1)).filter fun (k : Nat) => nnB (subR b h (k : Int))
def lds : List (List Int) → List (List Int × List Int) → List (List Int × List Int)
  | [], rows => rows
  | h :: t, rows => lds t (rows.flatMap fun q => (takes q.2 h).map fun (k : Nat) => (q.1 ++ [(k : Int)], subR q.2 h (k : Int)))
theorem flat_filter {α : Type} {p : Nat → Bool} {f : Nat → List α} : ∀ {l : List Nat}, (∀ k ∈ l, p k = false → f k = []) → (l.filter p).flatMap f = l.flatMap f
  | [], _ => rfl
  | x :: l, h => by
    have ih := flat_filter (l := l) (p := p) (f := f) fun k hk => h k (List.mem_cons_of_mem _ hk)
    rw [List.filter_cons, List.flatMap_cons]
    cases e : p x with
    | true => rw [if_pos rfl, List.flatMap_cons, ih]
    | false => rw [if_neg (by decide), h x List.mem_cons_self e, ih]; rfl
theorem fils_neg {g : Nat} {l : List (List Int)} {b : List Int} (hl : ∀ h ∈ l, Kd g h) (hb : b.length = g) (e : nnB b = false) : fils l b = [] := by
  have := fils_len l b
  rw [cnt_neg hl hb e] at this
  exact List.eq_nil_of_length_eq_zero this
theorem flat_congr {α β : Type} {f g : α → List β} : ∀ {l : List α}, (∀ x ∈ l, f x = g x) → l.flatMap f = l.flatMap g
  | [], _ => rfl
  | x :: l, h => by rw [List.flatMap_cons, List.flatMap_cons, h x List.mem_cons_self, flat_congr fun y hy => h y (List.mem_cons_of_mem _ hy)]
theorem flat_flat {α β γ : Type} {f : α → List β} {g : β → List γ} : ∀ {l : List α}, (l.flatMap f).flatMap g = l.flatMap fun x => (f x).flatMap g
  | [] => rfl
  | x :: l => by rw [List.flatMap_cons, List.flatMap_append, List.flatMap_cons, flat_flat]
theorem flat_map {α β γ : Type} {f : α → β} {g : β → List γ} : ∀ {l : List α}, (l.map f).flatMap g = l.flatMap fun x => g (f x)
  | [] => rfl
  | x :: l => by rw [List.map_cons, List.flatMap_cons, List.flatMap_cons, flat_map]
theorem map_flat {α β γ : Type} {f : α → List β} {g : β → γ} : ∀ {l : List α}, (l.flatMap f).map g = l.flatMap fun x => (f x).map g
  | [] => rfl
  | x :: l => by rw [List.flatMap_cons, List.map_append, List.flatMap_cons, map_flat]
theorem base_fils : ∀ rows : List (List Int × List Int), (rows.filter fun q => zeroB q.2).map (·.1) = rows.flatMap fun q => (fils [] q.2).map fun c => q.1 ++ c
  | [] => rfl
  | q :: rows => by
    rw [List.flatMap_cons, ← base_fils rows, List.filter_cons]
    unfold fils
    cases e : zeroB q.2 with
    | true => rw [if_pos rfl, if_pos rfl, List.map_cons]; simp
    | false => rw [if_neg (by decide), if_neg (by decide)]; rfl
theorem lds_fils {g : Nat} : ∀ {l : List (List Int)} {rows : List (List Int × List Int)}, (∀ h ∈ l, Kd g h) → (∀ q ∈ rows, q.2.length = g) →
    ((lds l rows).filter fun q => zeroB q.2).map (·.1) = rows.flatMap fun q => (fils l q.2).map fun c => q.1 ++ c
  | [], rows, _, _ => base_fils rows
  | h :: t, rows, hl, hr => by
    have kh := hl h List.mem_cons_self
    have ht : ∀ x ∈ t, Kd g x := fun x hx => hl x (List.mem_cons_of_mem _ hx)
    show ((lds t (rows.flatMap fun q => (takes q.2 h).map fun (k : Nat) => (q.1 ++ [(k : Int)], subR q.2 h (k : Int)))).filter fun q => zeroB q.2).map (·.1) = _
    rw [lds_fils ht fun q hq => ?_, flat_flat]
    · refine flat_congr fun q hq => ?_
      have eb : q.2.length = h.length := by rw [hr q hq, kh.1]
      rw [flat_map]
      unfold takes
      rw [flat_filter fun k _ hk => ?_]
      · rw [show fils (h :: t) q.2 = (List.range (q.2.sum.toNat + 1)).flatMap fun (k : Nat) => (fils t (subR q.2 h (k : Int))).map fun c => (k : Int) :: c from rfl, map_flat]
        refine flat_congr fun k _ => ?_
        rw [List.map_map]
        refine List.map_congr_left fun c _ => ?_
        show q.1 ++ [(k : Int)] ++ c = q.1 ++ ((k : Int) :: c)
        rw [List.append_assoc]
        rfl
      · show (fils t (subR q.2 h (k : Int))).map _ = []
        rw [fils_neg ht (by rw [subR_len eb, hr q hq]) hk]
        rfl
    · obtain ⟨q0, hq0, hm⟩ := List.mem_flatMap.mp hq
      obtain ⟨k, _, rfl⟩ := List.mem_map.mp hm
      show (subR q0.2 h (k : Int)).length = g
      rw [subR_len (by rw [hr q0 hq0, kh.1]), hr q0 hq0]
/-- all fillings, as the law lists them -/
theorem all_fils {g : Nat} {l : List (List Int)} {b : List Int} (hl : ∀ h ∈ l, Kd g h) (hb : b.length = g) : ((lds l [([], b)]).filter fun q => zeroB q.2).map (·.1) = fils l b := by
  rw [lds_fils hl fun q hq => by rw [List.mem_singleton.mp hq]; exact hb]
  rw [List.flatMap_cons, List.flatMap_nil, List.append_nil]
  simp
end HL

namespace HL
/-! how often a kind goes in; the fillings step by step -/
theorem neg_on {g : Nat} {b h : List Int} {j k : Nat} (kh : Kd g h) (hb : b.length = g) (hjk : j ≤ k) (e : nnB (subR b h (j : Int)) = false) : nnB (subR b h (k : Int)) = false := by
  have eb : b.length = h.length := by rw [hb, kh.1]
  have := sub_neg (b := subR b h (j : Int)) (h := h) (k := ((k - j : Nat) : Int)) (by rw [subR_len eb, eb]) kh.2.1 (Int.natCast_nonneg _) e
  rw [subR_add, show (j : Int) + ((k - j : Nat) : Int) = (k : Int) by omega] at this
  exact this
/-- a loop that counts up until the kind goes in no more has told all takings -/
theorem takes_to {g : Nat} {b h : List Int} {k : Nat} (kh : Kd g h) (hb : b.length = g) (h1 : ∀ j, j < k → nnB (subR b h (j : Int)) = true) (h2 : nnB (subR b h (k : Int)) = false) : takes b h = List.range k := by
  have hk : k ≤ b.sum.toNat + 1 := by
    by_cases c : k ≤ b.sum.toNat + 1
    · exact c
    · have := h1 (b.sum.toNat + 1) (by omega)
      rw [sub_far kh hb (by omega)] at this
      cases this
  unfold takes
  rw [show b.sum.toNat + 1 = k + (b.sum.toNat + 1 - k) by omega, List.range_add, List.filter_append]
  have e1 : (List.range k).filter (fun (k : Nat) => nnB (subR b h (k : Int))) = List.range k := List.filter_eq_self.mpr fun j hj => h1 j (List.mem_range.mp hj)
  have e2 : ((List.range (b.sum.toNat + 1 - k)).map (k + ·)).filter (fun (k : Nat) => nnB (subR b h (k : Int))) = [] := List.filter_eq_nil_iff.mpr fun j hj => by
    obtain ⟨i, _, rfl⟩ := List.mem_map.mp hj
    rw [neg_on kh hb (Nat.le_add_right k i) h2]
    decide
  rw [e1, e2, List.append_nil]
/-- how far such a loop can come -/
theorem fits_lt {g : Nat} {b h : List Int} {k : Nat} (kh : Kd g h) (hb : b.length = g) (e : nnB (subR b h (k : Int)) = true) : k ≤ b.sum.toNat := by
  by_cases c : k ≤ b.sum.toNat
  · exact c
  · rw [sub_far kh hb (by omega)] at e
    cases e
theorem fils_to {g : Nat} {h : List Int} {t : List (List Int)} {b : List Int} {m : Nat} (hl : ∀ x ∈ h :: t, Kd g x) (hb : b.length = g) (hm : b.sum.toNat + 1 ≤ m) :
    fils (h :: t) b = (List.range m).flatMap fun (k : Nat) => (fils t (subR b h (k : Int))).map fun c => (k : Int) :: c := by
  have kh := hl h List.mem_cons_self
  have eb : b.length = h.length := by rw [hb, kh.1]
  have ht : ∀ x ∈ t, Kd g x := fun x hx => hl x (List.mem_cons_of_mem _ hx)
  rw [show m = (b.sum.toNat + 1) + (m - (b.sum.toNat + 1)) by omega, List.range_add, List.flatMap_append]
  have e2 : ((List.range (m - (b.sum.toNat + 1))).map ((b.sum.toNat + 1) + ·)).flatMap (fun (k : Nat) => (fils t (subR b h (k : Int))).map fun c => (k : Int) :: c) = [] := by
    rw [flat_map]
    refine List.flatMap_eq_nil_iff.mpr fun i _ => ?_
    rw [fils_neg ht (by rw [subR_len eb, hb]) (sub_far kh hb (by omega))]
    rfl
  rw [e2, List.append_nil]
  rfl
def bump : List Int → List Int
  | k :: c => (k + 1) :: c
  | [] => []
theorem fils_step {g : Nat} {h : List Int} {t : List (List Int)} {b : List Int} (hl : ∀ x ∈ h :: t, Kd g x) (hb : b.length = g) :
    fils (h :: t) b = (fils t b).map (fun c => (0 : Int) :: c) ++ (fils (h :: t) (subR b h 1)).map bump := by
  have kh := hl h List.mem_cons_self
  have eb : b.length = h.length := by rw [hb, kh.1]
  rw [fils_to hl hb (m := b.sum.toNat + 1 + 1) (by omega), List.range_succ_eq_map, List.flatMap_cons, fils_to hl (b := subR b h 1) (by rw [subR_len eb, hb]) (sub_sum_le kh hb), map_flat, flat_map, show ((0 : Nat) : Int) = 0 from rfl, subR_zero eb]
  congr 1
  refine flat_congr fun k _ => ?_
  rw [List.map_map, subR_add, show (1 : Int) + (k : Int) = ((k.succ : Nat) : Int) by omega]
  refine List.map_congr_left fun c _ => ?_
  show ((k.succ : Nat) : Int) :: c = ((k : Int) + 1) :: c
  congr 1
theorem at_lt {g : Nat} {h : List Int} {t : List (List Int)} {b : List Int} {p : Nat} (hl : ∀ x ∈ h :: t, Kd g x) (hb : b.length = g) (hp : p < cnt t b) : (fils (h :: t) b)[p]? = ((fils t b)[p]?).map fun c => (0 : Int) :: c := by
  rw [fils_step hl hb, List.getElem?_append_left (by rw [List.length_map, fils_len]; exact hp), List.getElem?_map]
theorem at_ge {g : Nat} {h : List Int} {t : List (List Int)} {b : List Int} {p : Nat} (hl : ∀ x ∈ h :: t, Kd g x) (hb : b.length = g) (hp : cnt t b ≤ p) : (fils (h :: t) b)[p]? = ((fils (h :: t) (subR b h 1))[p - cnt t b]?).map bump := by
  rw [fils_step hl hb, List.getElem?_append_right (by rw [List.length_map, fils_len]; exact hp), List.length_map, fils_len, List.getElem?_map]
end HL

namespace HL
/-! ### prices: what bars a bill, in three goods -/
abbrev V3 := Int × Int × Int
def d3 (p k : V3) : Int := p.1 * k.1 + p.2.1 * k.2.1 + p.2.2 * k.2.2
def cr3 (a b : V3) : V3 := (a.2.1 * b.2.2 - a.2.2 * b.2.1, a.2.2 * b.1 - a.1 * b.2.2, a.1 * b.2.1 - a.2.1 * b.1)
def s3 (k : V3) : Int := k.1 + k.2.1 + k.2.2
def neg3 (a : V3) : V3 := (-a.1, -a.2.1, -a.2.2)
def un3 : List V3 := [(1, 0, 0), (0, 1, 0), (0, 0, 1)]
theorem ratio_trans {n1 d1 n2 d2 n3 e3 : Int} (p1 : 0 < d1) (p2 : 0 < d2) (p3 : 0 < e3) (h1 : n1 * d2 ≤ n2 * d1) (h2 : n2 * e3 ≤ n3 * d2) : n1 * e3 ≤ n3 * d1 := by
  have a1 : n1 * d2 * e3 ≤ n2 * d1 * e3 := Int.mul_le_mul_of_nonneg_right h1 (by omega)
  have a2 : n2 * e3 * d1 ≤ n3 * d2 * d1 := Int.mul_le_mul_of_nonneg_right h2 (by omega)
  have a3 : n1 * e3 * d2 ≤ n3 * d1 * d2 := by
    have e1 : n1 * d2 * e3 = n1 * e3 * d2 := by grind
    have e2 : n2 * d1 * e3 = n2 * e3 * d1 := by grind
    have e3 : n3 * d2 * d1 = n3 * d1 * d2 := by grind
    omega
  exact Int.le_of_mul_le_mul_right a3 p2
theorem min_ratio {α : Type} (n d : α → Int) : ∀ {l : List α}, l ≠ [] → (∀ x ∈ l, 0 < d x) → ∃ m ∈ l, ∀ x ∈ l, n m * d x ≤ n x * d m
  | [], h, _ => absurd rfl h
  | [a], _, _ => ⟨a, List.mem_cons_self, fun x hx => by rw [List.mem_singleton.mp hx]; exact Int.le_refl _⟩
  | a :: b :: l, _, hd => by
    obtain ⟨m, hm, hx⟩ := min_ratio n d (l := b :: l) (by simp) fun x hx => hd x (List.mem_cons_of_mem _ hx)
    have da := hd a List.mem_cons_self
    have dm := hd m (List.mem_cons_of_mem _ hm)
    by_cases c : n m * d a ≤ n a * d m
    · refine ⟨m, List.mem_cons_of_mem _ hm, fun x h => ?_⟩
      rcases List.mem_cons.mp h with e | e
      · rw [e]; exact c
      · exact hx x e
    · refine ⟨a, List.mem_cons_self, fun x h => ?_⟩
      rcases List.mem_cons.mp h with e | e
      · rw [e]; exact Int.le_refl _
      · exact ratio_trans da dm (hd x (List.mem_cons_of_mem _ e)) (by omega) (hx x e)
/-- rows that are one but for a factor bar alike -/
theorem bars_alike {w q b : V3} {ks : List V3} (hw : d3 w b ≠ 0) (hq : d3 q b < 0) (hk : ∀ k ∈ ks, 0 ≤ d3 q k) (e : ∀ k ∈ ks, d3 w k * d3 q b = d3 w b * d3 q k) :
    ((∀ k ∈ ks, 0 ≤ d3 w k) ∧ d3 w b < 0) ∨ ((∀ k ∈ ks, 0 ≤ d3 (neg3 w) k) ∧ d3 (neg3 w) b < 0) := by
  have en : ∀ k, d3 (neg3 w) k = - d3 w k := fun k => by
    unfold d3 neg3
    grind
  by_cases c : d3 w b < 0
  · refine .inl ⟨fun k h => ?_, c⟩
    have e1 := e k h
    have k0 := hk k h
    by_cases z : 0 ≤ d3 w k
    · exact z
    · have a1 : 0 < d3 w k * d3 q b := Int.mul_pos_of_neg_of_neg (by omega) hq
      have a2 : d3 w b * d3 q k ≤ 0 := Int.mul_nonpos_of_nonpos_of_nonneg (by omega) k0
      omega
  · refine .inr ⟨fun k h => ?_, by rw [en]; omega⟩
    rw [en]
    have e1 := e k h
    have k0 := hk k h
    by_cases z : d3 w k ≤ 0
    · omega
    · have a1 : d3 w k * d3 q b < 0 := Int.mul_neg_of_pos_of_neg (by omega) hq
      have a2 : 0 ≤ d3 w b * d3 q k := Int.mul_nonneg (by omega) k0
      omega
theorem bars_some {ks : List V3} {b p : V3} (h0 : ks ≠ []) (hs : ∀ k ∈ ks, 0 < s3 k) (hb : 0 ≤ s3 b) (hp : ∀ k ∈ ks, 0 ≤ d3 p k) (hpb : d3 p b < 0) :
    ∃ a ∈ ks, ∃ x ∈ ks ++ un3, ((∀ k ∈ ks, 0 ≤ d3 (cr3 a x) k) ∧ d3 (cr3 a x) b < 0) ∨ ((∀ k ∈ ks, 0 ≤ d3 (neg3 (cr3 a x)) k) ∧ d3 (neg3 (cr3 a x)) b < 0) := by
  obtain ⟨a, ha, hmin⟩ := min_ratio (d3 p) s3 h0 hs
  have sa := hs a ha
  have pa := hp a ha
  obtain ⟨q, qk, qb⟩ : ∃ q : V3, (∀ v, d3 q v = s3 a * d3 p v - d3 p a * s3 v) ∧ True := ⟨(s3 a * p.1 - d3 p a, s3 a * p.2.1 - d3 p a, s3 a * p.2.2 - d3 p a), fun v => by unfold d3 s3; grind, trivial⟩
  have q1 : ∀ k ∈ ks, 0 ≤ d3 q k := fun k h => by
    rw [qk]
    have := hmin k h
    have e : d3 p k * s3 a = s3 a * d3 p k := Int.mul_comm _ _
    omega
  have q2 : d3 q a = 0 := by
    rw [qk]
    grind
  have q3 : d3 q b < 0 := by
    rw [qk]
    have a1 : s3 a * d3 p b < 0 := Int.mul_neg_of_pos_of_neg sa hpb
    have a2 : 0 ≤ d3 p a * s3 b := Int.mul_nonneg pa hb
    omega
  clear qk qb hmin
  by_cases cA : ∀ k ∈ ks, d3 (cr3 a b) k = 0
  · -- all lies in the plane of a and the bill
    have hN : ∃ x ∈ un3, d3 (cr3 a x) b ≠ 0 := by
      by_cases z : ∃ x ∈ un3, d3 (cr3 a x) b ≠ 0
      · exact z
      · exfalso
        have zz : ∀ x ∈ un3, d3 (cr3 a x) b = 0 := fun x hx => by
          by_cases y : d3 (cr3 a x) b = 0
          · exact y
          · exact absurd ⟨x, hx, y⟩ z
        have z1 := zz (1, 0, 0) (by simp [un3])
        have z2 := zz (0, 1, 0) (by simp [un3])
        have z3 := zz (0, 0, 1) (by simp [un3])
        have e : s3 a * d3 q b = s3 b * d3 q a - ((q.2.2 - q.2.1) * d3 (cr3 a (1, 0, 0)) b + (q.1 - q.2.2) * d3 (cr3 a (0, 1, 0)) b + (q.2.1 - q.1) * d3 (cr3 a (0, 0, 1)) b) := by
          unfold d3 cr3 s3
          grind
        rw [z1, z2, z3, q2] at e
        have : s3 a * d3 q b < 0 := Int.mul_neg_of_pos_of_neg sa q3
        simp at e
        omega
    obtain ⟨x, hx, hxb⟩ := hN
    refine ⟨a, ha, x, List.mem_append_right _ hx, bars_alike hxb q3 q1 fun k h => ?_⟩
    have c0 := cA k h
    have e : ∀ x ∈ un3, d3 (cr3 a x) k * d3 q b = d3 (cr3 a x) b * d3 q k := fun x hx => by
      have e0 : d3 (cr3 a x) k * d3 q b - d3 (cr3 a x) b * d3 q k = d3 q x * d3 (cr3 a b) k + d3 q a * d3 x (cr3 k b) := by
        unfold d3 cr3
        grind
      rw [c0, q2] at e0
      simp at e0
      omega
    exact e x hx
  · -- some kind lies beside it
    obtain ⟨σ, hσ, k0, hk0, hneg⟩ : ∃ σ : Int, (σ = 1 ∨ σ = -1) ∧ ∃ k ∈ ks, σ * d3 (cr3 a b) k < 0 := by
      have : ∃ k ∈ ks, d3 (cr3 a b) k ≠ 0 := by
        by_cases z : ∃ k ∈ ks, d3 (cr3 a b) k ≠ 0
        · exact z
        · refine absurd (fun k h => ?_) cA
          by_cases y : d3 (cr3 a b) k = 0
          · exact y
          · exact absurd ⟨k, h, y⟩ z
      obtain ⟨k, h, hne⟩ := this
      by_cases c : d3 (cr3 a b) k < 0
      · exact ⟨1, .inl rfl, k, h, by omega⟩
      · exact ⟨-1, .inr rfl, k, h, by omega⟩
    obtain ⟨c, hc, hcm⟩ := min_ratio (d3 q) (fun k => -(σ * d3 (cr3 a b) k)) (l := ks.filter fun k => decide (σ * d3 (cr3 a b) k < 0)) (fun e => by
      have : k0 ∈ ks.filter fun k => decide (σ * d3 (cr3 a b) k < 0) := List.mem_filter.mpr ⟨hk0, decide_eq_true hneg⟩
      rw [e] at this
      cases this) fun x hx => by
        have := of_decide_eq_true (List.mem_filter.mp hx).2
        omega
    obtain ⟨hc1, hc2⟩ := List.mem_filter.mp hc
    have hc2' : σ * d3 (cr3 a b) c < 0 := of_decide_eq_true hc2
    have qc := q1 c hc1
    -- the row that meets a and c
    obtain ⟨r, rk⟩ : ∃ r : V3, ∀ v, d3 r v = -(σ * d3 (cr3 a b) c) * d3 q v + d3 q c * (σ * d3 (cr3 a b) v) :=
      ⟨(-(σ * d3 (cr3 a b) c) * q.1 + d3 q c * σ * (cr3 a b).1, -(σ * d3 (cr3 a b) c) * q.2.1 + d3 q c * σ * (cr3 a b).2.1, -(σ * d3 (cr3 a b) c) * q.2.2 + d3 q c * σ * (cr3 a b).2.2), fun v => by
        unfold d3
        grind⟩
    have r1 : ∀ k ∈ ks, 0 ≤ d3 r k := fun k h => by
      rw [rk]
      have qk := q1 k h
      by_cases z : σ * d3 (cr3 a b) k < 0
      · have := hcm k (List.mem_filter.mpr ⟨h, decide_eq_true z⟩)
        have e1 : d3 q c * -(σ * d3 (cr3 a b) k) = -(d3 q c * (σ * d3 (cr3 a b) k)) := by grind
        have e2 : d3 q k * -(σ * d3 (cr3 a b) c) = -(σ * d3 (cr3 a b) c) * d3 q k := Int.mul_comm _ _
        have : d3 q c * -(σ * d3 (cr3 a b) k) ≤ d3 q k * -(σ * d3 (cr3 a b) c) := this
        omega
      · have a1 : 0 ≤ -(σ * d3 (cr3 a b) c) * d3 q k := Int.mul_nonneg (by omega) qk
        have a2 : 0 ≤ d3 q c * (σ * d3 (cr3 a b) k) := Int.mul_nonneg qc (by omega)
        omega
    have r2 : d3 r a = 0 := by
      rw [rk, q2, show d3 (cr3 a b) a = 0 by unfold d3 cr3; grind]
      simp
    have r3 : d3 r c = 0 := by
      rw [rk]
      grind
    have r4 : d3 r b < 0 := by
      rw [rk, show d3 (cr3 a b) b = 0 by unfold d3 cr3; grind]
      have : -(σ * d3 (cr3 a b) c) * d3 q b < 0 := Int.mul_neg_of_pos_of_neg (by omega) q3
      simp only [Int.mul_zero, Int.add_zero]
      exact this
    have hw : d3 (cr3 a c) b ≠ 0 := fun z => by
      have e : d3 (cr3 a c) b = - d3 (cr3 a b) c := by
        unfold d3 cr3
        grind
      have : d3 (cr3 a b) c = 0 := by omega
      rw [this] at hc2'
      simp at hc2'
    refine ⟨a, ha, c, List.mem_append_left _ hc1, bars_alike hw r4 r1 fun k h => ?_⟩
    have e0 : d3 (cr3 a c) k * d3 r b - d3 (cr3 a c) b * d3 r k = d3 r a * d3 c (cr3 k b) - d3 r c * d3 a (cr3 k b) := by
      unfold d3 cr3
      grind
    rw [r2, r3] at e0
    simp at e0
    omega
end HL

namespace HL
open PySem PySem.Spec PyProof.Rows L2
open PySem.W (KeyPure EachIs)
open PySem.Spec PySem.W
open LamX (CodeO Tabs TabB ExtN lamEnv lam_make2)
/-! sorted(rows, key=lambda row: abs(row[place])): rows of whole numbers, the place a name of the def -/
/-- the names of such a lambda: its one parameter, the place of the def around it, abs -/
structure LamK (sd sc : Scope) (r pl : Str) : Prop where
  kind : sc.kind = .function
  co : sc.isCoroutine = false
  gen : sc.isGenerator = false
  nocell : ∀ y ∈ sc.names, y.2 ≠ .cell
  row : sc.names.lookup r = some .local
  place : sc.names.lookup pl = some .free
  ab : sc.names.lookup (Str.ofString "abs") = some .globalImplicit
  only : ∀ y ∈ sc.names, y.2 = .free → y.1 = pl
  out : sd.names.lookup pl = some .cell
def lamKB (sd sc : Scope) (r pl : Str) : Bool :=
  decide (sc.kind = .function) && !sc.isCoroutine && !sc.isGenerator && (sc.names.all fun y => !decide (y.2 = .cell)) && decide (sc.names.lookup r = some .local) && decide (sc.names.lookup pl = some .free) && decide (sc.names.lookup (Str.ofString "abs") = some .globalImplicit) &&
    (sc.names.all fun y => !decide (y.2 = .free) || decide (y.1 = pl)) && decide (sd.names.lookup pl = some .cell)
theorem lamK_by {sd sc : Scope} {r pl : Str} (h : lamKB sd sc r pl = true) : LamK sd sc r pl := by
  unfold lamKB at h
  simp only [Bool.and_eq_true, Bool.or_eq_true, Bool.not_eq_true', decide_eq_true_eq, decide_eq_false_iff_not, List.all_eq_true] at h
  obtain ⟨⟨⟨⟨⟨⟨⟨⟨h1, h2⟩, h3⟩, h4⟩, h5⟩, h6⟩, h7⟩, h8⟩, h9⟩ := h
  exact ⟨h1, h2, h3, h4, h5, h6, h7, fun y hy e => (h8 y hy).resolve_left fun z => z e, h9⟩
def absI (z : Int) : Int := if z < 0 then -z else z
section
variable {X : Cx} {pins : List (Addr × Obj)} {σ : L2.St} {H : Hp} {s : Shared}
theorem key_turn {sc : Scope} {ps : Arguments} {r pl : Str} {f c' : Addr} {pm ct : Value} {i : Nat} {n z : Int} {p1 p2 p3 p4 p5 : Pos} {a : Addr} {xs : List Int}
    (I : Inv X pins σ H s) (L : LamK X.env.scope sc r pl) (hf : s.heap.get? f = some (lamO X ps (.Call (.Name "abs" p1) [.Subscript (.Name r p2) (.Name pl p3) p4] [] p5) sc pm c' ct)) (hco : H c' = some (CodeO c' (X.env.qual ++ "<lambda>")))
    (hb : ∀ v, bindArgs (PySem.W.kla_fn "<lambda>" (X.env.qual ++ "<lambda>") ps (.Call (.Name "abs" p1) [.Subscript (.Name r p2) (.Name pl p3) p4] [] p5) sc (cloFrom X.env.cells sc.names []) pm (.ref c') ct) ⟨[v], []⟩ = pure [(r, v)])
    (hm : X.mg "abs" = none) (hN : X.N[i]? = some pl) (hσ : σ[i]? = some (some (.int n))) (hr : Room 3 X.A) (dr : (r == ("__debug__" : Str)) = false) (dp : (pl == ("__debug__" : Str)) = false) (dp2 : (pl == ("__classdict__" : Str)) = false)
    (ha : H a = some (.tup (xs.map V.int))) (hat : atI (xs.map V.int) n = some (.int z)) (g : Heap) (tk : Nat) (kp : ∀ b o, s.heap.get? b = some o → g.get? b = some o) :
    wpAny (model X.prog X.w) X.A.in1.in1 (call (.ref f) [.ref a]) (KeyPure (.int (absI z)) { s with heap := g, toks := tk }) (fun _ _ => False) { s with heap := g, toks := tk } := by
  obtain ⟨cp, hcp⟩ : ∃ c, X.env.cells.lookup pl = some c := I.ok.has _ (.inl L.out)
  have hclo : (cloFrom X.env.cells sc.names []).lookup pl = some cp := by
    have hy : (pl, NameKind.free) ∈ sc.names := PySem.mem_of_lookup L.place
    obtain ⟨c2, h2⟩ := mem_lookup (cloFrom_has (cells := X.env.cells) (acc := []) hy)
    rcases cloFrom_mem (PySem.mem_of_lookup h2) with hm | ⟨h1, h3⟩
    · cases hm
    · rw [h2, h3, hcp]
      rfl
  have hplv : ∃ t, s.heap.IsCell cp (some (.int n t)) := by
    obtain ⟨m, hn, hl⟩ := I.loc
    obtain ⟨u, ru, q⟩ := hl i pl _ hN hσ (.inr (.inl L.out))
    obtain ⟨t, rfl⟩ := ru
    rcases q with ⟨k, _⟩ | ⟨_, c, e, hc⟩
    · have k : X.env.scope.names.lookup pl = some .local := k
      rw [L.out] at k
      cases k
    · rw [hcp] at e
      cases e
      exact ⟨t, hc⟩
  obtain ⟨t, hcell⟩ := hplv
  obtain ⟨its, rv, htp, hz⟩ := I.tuple (a := a) (SqT.of ha)
  obtain ⟨j, h1, h2, h3, h4, h5⟩ := atI_get hat
  obtain ⟨w, ew, rw'⟩ := rv.get h2
  obtain ⟨tz, rfl⟩ := rw'
  have hl := rv.length
  have hn63 := line63
  have of1 : g.get? f = some (lamO X ps (.Call (.Name "abs" p1) [.Subscript (.Name r p2) (.Name pl p3) p4] [] p5) sc pm c' ct) := kp _ _ hf
  obtain ⟨⟨oc, vs, tc, hoc, hdc, hvc⟩, _, _⟩ := I.hok c' _ hco
  have dpth : X.A.in1.in1.depth < recursionLimit := by
    have := hr.dp
    show X.A.depth < _
    omega
  refine wpAny_call (PySem.W.kla_callFunE dpth of1 rfl L.co L.gen rfl ⟨c', oc, vs, tc, rfl, kp _ _ hoc, hdc, hvc⟩ ?_)
  rw [hb]
  refine wpAny_pure (wpAny_newFunctionEnv L.nocell (fun y hy => by rw [List.mem_singleton.mp hy]; exact L.row) (fun h₁ hns hsb => ⟨?_, ?_⟩) L.kind)
  · have lim : Heap.NoLimit g := I.nolimit.keeps kp
    exact lim.fresh _ hsb
  have kp1 : ∀ b o, g.get? b = some o → h₁.get? b = some o := fun b o e => hsb.extBut b o (Nat.ne_of_lt (Heap.lt_size e)) (Heap.get?_push_of_some _ e)
  have kp2 : ∀ b o, s.heap.get? b = some o → h₁.get? b = some o := fun b o e => kp1 _ _ (kp _ _ e)
  refine PySem.W.kla_codeExpr ?_
  obtain ⟨mb, b1, b2⟩ := I.mod.blt
  refine wpAny_Call_Name_kw (Calls.Name_function_global L.kind L.ab (Calls.loadGlobal_builtin (I.mod.glob.keeps fun b o e => kp2 _ _ (I.bk b o e)) hm (b1.keeps fun b o e => kp2 _ _ (I.bk b o e)) ((b2 "abs" (by decide)).trans (show bootBuiltins "abs" = some (.builtin "abs") by decide +kernel)) ?_) (by decide))
  refine PyProof.Rows.callWith_builtin1 ?_ rfl rfl
  refine Calls.spliced_cons (Subscript_ (wpAny_Name (wpAny_loadName_local (v := .ref a) L.kind L.row hns ?_ (wpAny_Name (wpAny_loadName_free (v := .int n t) L.kind L.place hclo ?_ ?_ dp2) dp)) dr))
  · show ([(r, Value.ref a)].reverse).lookup r = some (.ref a)
    simp
  · obtain ⟨o, ho, hd⟩ := hcell
    exact ⟨o, kp2 _ _ ho, hd⟩
  · refine subscriptTail_builtinR (x := .int z tz) (htp.keeps kp2).typeIs slot_tuple_getitem.lookup (getItem_tuple (j := j) (htp.keeps kp2) (by omega) (by omega) (by rw [List.size_toArray, ← hl]; exact h1) (by simpa using ew) ⟨rfl, Calls.spliced_nil ?_⟩) rfl
    refine call_abs_int fun u tk2 => ?_
    exact ⟨h₁, _, rfl, kp1, .int _ _⟩
end
/-- the row at an address, as it is told -/
def rowF (H : Hp) (a : Addr) : List Int := match H a with
  | some (.tup xs) => xs.map fun v => match v with
    | .int n => n
    | _ => 0
  | _ => []
theorem rowF_at {H : Hp} {a : Addr} {r : List Int} (h : H a = some (.tup (r.map V.int))) : rowF H a = r := by
  unfold rowF
  rw [h]
  simp [List.map_map, Function.comp_def]
def tSortKey (K : PySem.W.Frag) (T : List (Addr × Str)) (i : Nat) (te : TE) : TE := fun σ H Q => te σ H fun v H0 => ∃ (l : Addr) (as : List Addr) (row : Addr → List Int) (n : Nat), v = .ref l ∧ H0 l = some (.lst (as.map V.ref)) ∧ Tabs T H0 ∧ σ[i]? = some (some (.int (n : Int))) ∧
  (∀ a ∈ as, H0 a = some (.tup ((row a).map V.int)) ∧ n < (row a).length) ∧
  ∀ (H1 : Hp) (bs : List Addr) (p : Addr), ExtN H0 H1 → Tabs T H1 → bs.Perm as → bs.Pairwise (fun a b => absI ((row a).getD n 0) ≤ absI ((row b).getD n 0)) → H1 p = none → Q (.ref p) (upd H1 p (.lst (bs.map V.ref)))
theorem each_refs : ∀ as : List Addr, EachIs (fun (v : Value) (a : Addr) => v = .ref a) (as.map Value.ref) as
  | [] => .nil
  | a :: as => .cons rfl (each_refs as)
theorem refs_each : ∀ {vs : List Value} {as : List Addr}, EachIs (fun (v : Value) (a : Addr) => v = .ref a) vs as → vs = as.map Value.ref
  | _, _, .nil => rfl
  | _, _, .cons h t => by rw [List.map_cons, h, refs_each t]
theorem vals_of_refs : ∀ as : List Addr, Vals (as.map V.ref) (as.map Value.ref)
  | [] => .nil
  | a :: as => .cons rfl (vals_of_refs as)
theorem pe_sortKey {X : Cx} {T : List (Addr × Str)} {c P : Addr} {i : Nat} {r pl : Str} {ps : Arguments} {sc : Scope} {e : Expr} {te : TE} {p lp kp pos p1 p2 p3 p4 p5 : Pos}
    (hg : Gl X "sorted") (hs : X.mg "sorted" = none) (hm : X.mg "abs" = none) (he : PE X e te) (TB : TabB X.base X.mg c P) (hcode : X.env.code = .ref c) (hT : (P, X.env.qual ++ "<lambda>") ∈ T) (hu : ∀ p ∈ T, p.1 = P → p.2 = X.env.qual ++ "<lambda>")
    (L : LamK X.env.scope sc r pl) (hdef : defaultsOf ps X.env = ([], [])) (hN : X.N[i]? = some pl) (hr : Room 3 X.A)
    (hb : ∀ (q : Str) (cl : List (Str × Addr)) (pm cv ctv v : Value), bindArgs (PySem.W.kla_fn "<lambda>" q ps (.Call (.Name "abs" p1) [.Subscript (.Name r p2) (.Name pl p3) p4] [] p5) sc cl pm cv ctv) ⟨[v], []⟩ = pure [(r, v)])
    (hst : starEach [e] X.env = [(false, eval e X.env)] := by rfl)
    (dr : (r == ("__debug__" : Str)) = false := by decide) (dp : (pl == ("__debug__" : Str)) = false := by decide) (dp2 : (pl == ("__classdict__" : Str)) = false := by decide) :
    PE X (.Call (.Name "sorted" p) [e] [⟨some "key", .Lambda ps (.Call (.Name "abs" p1) [.Subscript (.Name r p2) (.Name pl p3) p4] [] p5) sc lp, kp⟩] pos) (tSortKey X.K T i te) := by
  refine ⟨fun pins s σ H Q I h => ?_⟩
  refine wpAny_Call_Name_kw (ld_blt I hg hs (show bootBuiltins "sorted" = some (.builtin "sorted") by decide +kernel) ?_ (by decide) (by decide))
  refine PyProof.Rows.callWith_kw ?_ (by rw [hst]; rfl) (by rw [hst]; rfl) rfl rfl
  rw [hst]
  show wpAny _ _ (spliced [(false, eval e X.env)]) _ _ s
  refine Calls.spliced_cons (thn (he.run pins s σ H _ I (show te σ H _ from h)) fun u s1 ⟨v, H0, I0, r0, q0⟩ => Calls.spliced_nil ?_)
  obtain ⟨l, as, row, n, rfl, hL, hTt, hσ, hrow, q⟩ := q0
  obtain rfl : u = Value.ref l := r0
  show wpAny _ _ (evalAll ((do let v ← eval (.Lambda ps (.Call (.Name "abs" p1) [.Subscript (.Name r p2) (.Name pl p3) p4] [] p5) sc lp) X.env; standAt pos; pure v) :: [])) _ _ s1
  have hfree : ∀ y ∈ sc.names, y.2 = .free → ∃ c, X.env.cells.lookup y.1 = some c := fun y hy e => by
    rw [L.only y hy e]
    exact I.ok.has _ (.inl L.out)
  refine wpAny_evalAll_cons (wpAny_bind (lam_make2 I0 TB hcode hT hu hTt hdef hfree fun f c' pm' ctv H1 s2 J eN T1 hf hfn hfr hco => wpAny_bind (wpAny_standAt (wpAny_pure (wpAny_evalAll_nil ?_)))))
  have hL1 : SqL X.K H1 l (as.map V.ref) := by
    exact SqL.of (eN _ _ hL (fun ps w => by cases w))
  have hrow1 : ∀ a ∈ as, H1 a = some (.tup ((row a).map V.int)) ∧ n < (row a).length := fun a ha => ⟨eN _ _ (hrow a ha).1 (fun ps w => by cases w), (hrow a ha).2⟩
  obtain ⟨its, rv, hl, hz⟩ := J.list hL1
  obtain ⟨e1, e2⟩ := refs_back rv fun x m => by
    obtain ⟨b, _, rfl⟩ := List.mem_map.mp m
    exact ⟨b, rfl⟩
  obtain rfl := vals_refs e2 e1
  have hz' : as.length ≤ sizeLine := by rw [List.length_map] at hz; exact hz
  have hun := hr.un
  show wpAny _ _ (call (.builtin "sorted") [.ref l] [(Str.ofString "key", .ref f)]) _ _ s2
  refine PySem.W.sorted_key_data (b := false) (R := fun (v : Value) (a : Addr) => v = .ref a) (bs := as) (fun a => .int (absI ((row a).getD n 0))) hl.isList (each_refs as) (PySem.W.AllAlike.of fun _ _ => by simp [PySem.W.alike]) (.inr fun d hd => ?_) hz' (fun a _ => ?_) (ksk_s1 _ _) (fun _ => ksk_l1 _ _) (fun _ => ksk_t1 _ _)
    (fun v a hv ha g tk kp => ?_) fun out cc h' tk kp fresh hD hlen eo => ?_
  · obtain ⟨a, _, rfl⟩ := List.mem_map.mp hd
    exact ⟨(fun z => by cases z), (fun xs z => by cases z)⟩
  · have hd : (PyData.int (absI ((row a).getD n 0))).depth = 0 := by simp [PyData.depth]
    rw [hd]
    omega
  · subst hv
    have hat : atI ((row a).map V.int) (n : Int) = some (.int ((row a).getD n 0)) := atI_nat (by
      rw [List.getElem?_map, List.getD_eq_getElem?_getD, List.getElem?_eq_getElem (hrow1 a ha).2]
      rfl)
    exact key_turn J L hf hco (fun v => hb _ _ _ _ _ v) hm hN hσ hr dr dp dp2 (hrow1 a ha).1 hat g tk kp
  · have eout := refs_each eo
    have hle : PySem.W.dataLe (β := Addr) false (fun a => .int (absI ((row a).getD n 0))) = fun a b => decide (absI ((row a).getD n 0) ≤ absI ((row b).getD n 0)) := PySem.W.dataLe_int (fun a => absI ((row a).getD n 0))
    rw [hle] at eout
    have tot : PySem.W.TotalLe (fun a b : Addr => decide (absI ((row a).getD n 0) ≤ absI ((row b).getD n 0))) := ⟨fun a b c h1 h2 => by
      have h1 := of_decide_eq_true h1
      have h2 := of_decide_eq_true h2
      exact decide_eq_true (Int.le_trans h1 h2), fun a b => by
      rcases Int.le_total (absI ((row a).getD n 0)) (absI ((row b).getD n 0)) with h | h
      · exact .inl (decide_eq_true h)
      · exact .inr (decide_eq_true h)⟩
    have srt := (PySem.W.sort_pairwise tot as).imp fun {a b} h => of_decide_eq_true h
    have prm := List.mergeSort_perm as fun a b : Addr => decide (absI ((row a).getD n 0) ≤ absI ((row b).getD n 0))
    generalize as.mergeSort (fun a b : Addr => decide (absI ((row a).getD n 0) ≤ absI ((row b).getD n 0))) = bs at eout srt prm
    refine ⟨.ref _, upd H1 (s2.heap.objs.size + 1) (.lst (bs.map V.ref)), J.laid (t' := tk) kp (Nat.le_succ _) ⟨?_, bs.map Value.ref, cc, vals_of_refs bs, ?_⟩, rfl, q H1 bs _ eN T1 prm srt (J.hok.fresh (Nat.le_succ _))⟩
    · rw [List.length_map, prm.length_eq]
      exact hz'
    · rw [eout] at hD
      exact hD
end HL

namespace HL
open PySem PySem.Spec PyProof.Rows L2
/-! zip of a tuple and a list, by the library's zip over iterators of any kind -/
def ItzM (K : PySem.W.Frag) (a b : Addr) : It :=
  ⟨fun n H => ∃ us ws u w, (SqT K H a us ∧ us[n]? = some u) ∧ SqL K H b ws ∧ ws[n]? = some w,
    fun n H v H' => ∃ T u w, v = .ref T ∧ H T = none ∧ H' = upd H T (.tup [u, w]) ∧ (∀ us, SqT K H a us → us[n]? = some u) ∧ ∀ ws, SqL K H b ws → ws[n]? = some w,
    fun n H => ∃ us ws : List V, SqT K H a us ∧ SqL K H b ws ∧ us.length = ws.length ∧ n = us.length⟩
abbrev stM (z TI TO j k a b : Addr) (n : Nat) (h : Heap) : Prop := IsZip h z TI TO .none ∧ IsPair h TI (.ref j) (.ref k) ∧ (∃ u w, IsPair h TO u w) ∧ h.IsTupleIter j a n ∧ h.IsListIter k b n
theorem sep_of {z TI TO j k a b : Addr} (D : ZipApart z TI TO j k a b) : ZipSep2 z TI TO j k [j, a] [k, b] := by
  have no : ∀ {x y w : Addr}, x ≠ y → x ≠ w → x ∉ [y, w] := fun h1 h2 m => by
    rcases List.mem_cons.mp m with e | e
    · exact h1 e
    · exact h2 (List.mem_singleton.mp e)
  exact ⟨D.TIz, D.TOz, D.TITO, D.TIi1, List.mem_cons_self, no D.i1z.symm D.l1z.symm, no D.TOi1 D.l1TO.symm, D.TIi2, List.mem_cons_self, no D.i2z.symm D.l2z.symm, no D.TOi2 D.l2TO.symm, no D.i12 D.l2i1.symm, no D.i12.symm D.l1i2.symm⟩
theorem turn_zipM {P : Program} {w : World} {K : PySem.W.Frag} {elts : List Expr} {kk : Nat} {tp : Pos} {a b z TI TO j k : Addr} (D : ZipApart z TI TO j k a b) : Turn P w K (.Tuple elts kk tp) (ItzM K a b) [z, TI, TO, j, k] z (stM z TI TO j k a b) where
  mem := List.mem_cons_self
  obj := by
    rintro n h ⟨s1, s2, ⟨u, w', s3⟩, ⟨o4, e4, _, d4⟩, ⟨o5, e5, _, d5⟩⟩ c hc
    simp only [List.mem_cons, List.mem_nil_iff, or_false] at hc
    rcases hc with rfl | rfl | rfl | rfl | rfl
    · exact ⟨_, s1, fun v q => nomatch q⟩
    · exact ⟨_, s2, fun v q => nomatch q⟩
    · exact ⟨_, s3, fun v q => nomatch q⟩
    · exact ⟨o4, e4, fun v q => by rw [d4] at q; cases q⟩
    · exact ⟨o5, e5, fun v q => by rw [d5] at q; cases q⟩
  keep := by
    rintro n h h' ⟨s1, s2, ⟨u, w', s3⟩, s4, s5⟩ kp
    exact ⟨kp _ (by simp) _ s1, kp _ (by simp) _ s2, ⟨u, w', kp _ (by simp) _ s3⟩, s4.at fun o q => kp _ (by simp) o q, s5.at fun o q => kp _ (by simp) o q⟩
  item := by
    intro X hP hw hK hc n pins s σ H E I hf st hg
    subst hP hw hK
    obtain ⟨s1, s2, ⟨u0, w0, s3⟩, s4, s5⟩ := st
    obtain ⟨us, ws, u, w', ⟨qa, hu⟩, qb, hw'⟩ := hg
    obtain ⟨la, va, ta, _⟩ := I.tuple qa
    obtain ⟨lb, vb, tb, _⟩ := I.list qb
    obtain ⟨x1, gx1, r1⟩ := va.get hu
    obtain ⟨x2, gx2, r2⟩ := vb.get hw'
    have lt1 : n < la.toArray.size := by rw [List.size_toArray]; exact (List.getElem?_eq_some_iff.mp gx1).1
    have lt2 : n < lb.toArray.size := by rw [List.size_toArray]; exact (List.getElem?_eq_some_iff.mp gx2).1
    have hh : X.A.in1.handled = none := I.ok.hd hc
    have zl : z < s.heap.objs.size := Heap.lt_size s1
    refine wpAny_pyNext_zipD2_item (sep_of D) (Draws.tuple hh j a D.l1i1 la.toArray) (Draws.list hh k b D.l2i2 lb.toArray) s1 s2 s3 ⟨s4, ta⟩ ⟨s5, tb.isList⟩ lt1 lt2 fun y1 y2 h' tk g1 g2 z1 z3 t1 t2 hT hsz hk => ?_
    have ey1 : y1 = x1 := by
      have g1' : la[n]? = some y1 := by simpa using g1
      exact Option.some.inj (g1'.symm.trans gx1)
    have ey2 : y2 = x2 := by
      have g2' : lb[n]? = some y2 := by simpa using g2
      exact Option.some.inj (g2'.symm.trans gx2)
    subst ey1 ey2
    refine ⟨_, rfl, wpAny_letOwnedTupleGo_zip (s := { s with heap := h', toks := tk }) z1 fun h2 zz sb => ?_⟩
    have T2 : h2.get? s.heap.objs.size = some { cls := .type "tuple", data := .seq #[y1, y2] } := (sb.2 _ (Nat.ne_of_gt zl)).trans hT
    have I1 := I.turnedNew (ob := .tup [u, w']) (t' := tk) (ch := [z, TI, TO, j, k]) (h' := h2) (fun c o hb q => by
      simp only [List.mem_cons, List.mem_nil_iff, or_false, not_or] at hb
      exact (sb.2 c hb.1).trans (hk c o hb.1 hb.2.2.1 hb.2.2.2.1 hb.2.2.2.2 q)) hf (Nat.le_refl _) ⟨by show 2 ≤ sizeLine; decide, [y1, y2], .cons r1 (.cons r2 .nil), ⟨_, T2, rfl, _, rfl⟩⟩
    have up : ∀ {c : Addr} {o : Obj}, c ≠ z → h'.get? c = some o → h2.get? c = some o := fun n q => (sb.2 _ n).trans q
    refine ⟨.ref s.heap.objs.size, _, I1, rfl, ⟨_, u, w', rfl, I.hok.fresh (Nat.le_refl _), rfl, fun l q => by rw [I.tuple_inj q qa]; exact hu, fun l q => by rw [I.list_inj q qb]; exact hw'⟩,
      ⟨zz, up D.TIz (hk _ _ D.TIz D.TITO D.TIi1 D.TIi2 s2), ⟨y1, y2, up D.TOz z3⟩, t1.1.at fun o q => up D.i1z q, t2.1.at fun o q => up D.i2z q⟩, fun c hcm => ?_⟩
    have clt : c < s.heap.objs.size := by
      have hcm' := hcm
      simp only [List.mem_cons, List.mem_nil_iff, or_false] at hcm'
      rcases hcm' with rfl | rfl | rfl | rfl | rfl
      · exact zl
      · exact Heap.lt_size s2
      · exact Heap.lt_size s3
      · obtain ⟨_, e, _⟩ := s4; exact Heap.lt_size e
      · obtain ⟨_, e, _⟩ := s5; exact Heap.lt_size e
    rw [upd_ne (Nat.ne_of_lt clt)]
    exact (hf c hcm).1
  done := by
    intro X hP hw hK hc n pins s σ H E I hf st hg
    subst hP hw hK
    obtain ⟨s1, s2, ⟨u0, w0, s3⟩, s4, s5⟩ := st
    obtain ⟨us, ws, qa, qb, el, en⟩ := hg
    obtain ⟨la, va, ta, _⟩ := I.tuple qa
    obtain ⟨lb, vb, tb, _⟩ := I.list qb
    have l1 := va.length
    have l2 := vb.length
    have hh : X.A.in1.handled = none := I.ok.hd hc
    refine wpAny_pyNext_zipD2_end (sep_of D) (Draws.tuple hh j a D.l1i1 la.toArray) (Draws.list hh k b D.l2i2 lb.toArray) s1 s2 s3 ⟨s4, ta⟩ ⟨s5, tb.isList⟩ (by rw [List.size_toArray]; omega) (by rw [List.size_toArray]; omega) (.inl (by rw [List.size_toArray]; omega)) fun h' tk hk => ?_
    exact ⟨rfl, I.turnedL (t' := tk) (ch := [z, TI, TO, j, k]) (fun c o hb q => by
      simp only [List.mem_cons, List.mem_nil_iff, or_false, not_or] at hb
      exact hk c o hb.1 hb.2.2.1 hb.2.2.2.1 hb.2.2.2.2 q) hf⟩
  self := fun A n s Q E st h => wpAny_pyIter_zip st.1 h
def iZipM (K : PySem.W.Frag) (ta : TA) : TI := fun σ H R => ta σ H fun vs H1 => ∃ a b xs ys, vs = [.ref a, .ref b] ∧ ((SqT K H1 a xs ∧ SqL K H1 b ys ∧ R (ItzM K a b) H1) ∨ (SqT K H1 a xs ∧ SqT K H1 b ys ∧ R (RZ.ItzT K a b) H1))
theorem pi_zipM {X : Cx} {e e2 : Expr} {ta : TA} {p pos tp : Pos} {elts : List Expr} {kk : Nat} (hg : Gl X "zip") (hm : X.mg "zip" = none) (ha : PA X [e, e2] ta)
    (hs : starEach [e, e2] X.env = (false, eval e X.env) :: starEach [e2] X.env := by rfl) (hpl : (backTo pos (starEach [e2] X.env)).any (·.1) = false := by rfl) : PI X (.Tuple elts kk tp) (.Call (.Name "zip" p) [e, e2] [] pos) (iZipM X.K ta) := by
  refine ⟨fun pins s σ H R I h => Call_ (ld_blt I hg hm PyProof.Rows.boot_zip (PyProof.Rows.callWith_type1 (thn (ha.run pos pins s σ H _ I h) ?_) hs hpl))⟩
  rintro us s1 ⟨vs, H1, I1, r1, a, b, xs, ys, rfl, q1⟩
  obtain ⟨v1, v2, rfl, e1, e2⟩ := vals2 r1
  obtain rfl : v1 = Value.ref a := e1
  obtain rfl : v2 = Value.ref b := e2
  have fr : ∀ c, c ∈ [s1.heap.objs.size + 4, s1.heap.objs.size + 2, s1.heap.objs.size + 3, s1.heap.objs.size, s1.heap.objs.size + 1] → FpOk X pins H1 c := fun c m => by
    have le : s1.heap.objs.size ≤ c := by
      simp only [List.mem_cons, List.mem_nil_iff, or_false] at m
      omega
    exact I1.fpOk le (I1.hok.fresh le)
  rcases q1 with ⟨qa, qb, q⟩ | ⟨qa, qb, q⟩
  · obtain ⟨la, va, ta', _⟩ := I1.tuple qa
    obtain ⟨lb, vb, tb, _⟩ := I1.list qb
    obtain ⟨oa, hoa, _⟩ := id ta'
    refine zip_begins2 (begins_tuple a la.toArray) (begins_list b lb.toArray) ta' tb.isList fun h' z1 z2 z3 z4 z5 hsz hk => wpAny_pyIter_zip z1 ?_
    exact ⟨s1.heap.objs.size + 4, _, _, _, H1, rfl, I1.kept (t' := s1.toks) hk, turn_zipM (PySem.W.ktu_apart s1.heap.objs.size a b (Heap.lt_size hoa) tb.lt), ⟨z1, z2, ⟨_, _, z3⟩, ⟨_, z4, rfl, rfl⟩, ⟨_, z5, rfl, rfl⟩⟩, fr, q⟩
  · obtain ⟨la, va, ta', _⟩ := I1.tuple qa
    obtain ⟨lb, vb, tb, _⟩ := I1.tuple qb
    obtain ⟨oa, hoa, _⟩ := id ta'
    obtain ⟨ob, hob, _⟩ := id tb
    refine RZ.call_zipT (show s1.heap.IsTuple a la.toArray from ta') (show s1.heap.IsTuple b lb.toArray from tb) fun h' z1 z2 z3 z4 z5 hsz hk => wpAny_pyIter_zip z1 ?_
    exact ⟨s1.heap.objs.size + 4, _, _, _, H1, rfl, I1.kept (t' := s1.toks) hk, RZ.turn_zipT (PySem.W.ktu_apart s1.heap.objs.size a b (Heap.lt_size hoa) (Heap.lt_size hob)), ⟨z1, z2, ⟨_, _, z3⟩, z4, z5⟩, fr, q⟩
end HL

namespace HL
/-! rows that whole numbers of rows come to; rows brought to stairs; rests -/
def dotI (xs ys : List Int) : Int := ((xs.zip ys).map fun q => q.1 * q.2).sum
theorem dotI_nil {ys : List Int} : dotI [] ys = 0 := by
  unfold dotI
  rfl
theorem dotI_nil2 {xs : List Int} : dotI xs [] = 0 := by
  unfold dotI
  rw [List.zip_nil_right]
  rfl
theorem dotI_cons {x y : Int} {xs ys : List Int} : dotI (x :: xs) (y :: ys) = x * y + dotI xs ys := by
  unfold dotI
  rw [List.zip_cons_cons, List.map_cons, List.sum_cons]
theorem dotI_comm : ∀ {xs ys : List Int}, dotI xs ys = dotI ys xs
  | [], ys => by rw [dotI_nil, dotI_nil2]
  | _ :: _, [] => by rw [dotI_nil, dotI_nil2]
  | x :: xs, y :: ys => by rw [dotI_cons, dotI_cons, dotI_comm, Int.mul_comm]
theorem dot_sub : ∀ {b h p : List Int} {k : Int}, b.length = h.length → dotI (subR b h k) p = dotI b p - k * dotI h p
  | [], [], p, k, _ => by
    show dotI [] p = dotI [] p - k * dotI [] p
    rw [dotI_nil]
    omega
  | _ :: _, _ :: _, [], k, _ => by rw [dotI_nil2, dotI_nil2, dotI_nil2]; omega
  | x :: b, y :: h, z :: p, k, e => by
    have e' : b.length = h.length := by simpa using e
    rw [subR_cons, dotI_cons, dotI_cons, dotI_cons, dot_sub e']
    grind
  | [], _ :: _, _, _, e => by simp at e
  | _ :: _, [], _, _, e => by simp at e
theorem dot_rep {n : Nat} : ∀ {p : List Int}, dotI (List.replicate n 0) p = 0 := by
  induction n with
  | zero => exact dotI_nil
  | succ n ih =>
    intro p
    cases p with
    | nil => exact dotI_nil2
    | cons z p =>
      rw [List.replicate_succ, dotI_cons, ih]
      omega
theorem subR_get : ∀ {b h : List Int} {k : Int} {g : Nat}, b.length = h.length → (subR b h k).getD g 0 = b.getD g 0 - k * h.getD g 0
  | [], [], k, g, _ => by
    show ([] : List Int).getD g 0 = ([] : List Int).getD g 0 - k * ([] : List Int).getD g 0
    simp
  | x :: b, y :: h, k, 0, _ => rfl
  | x :: b, y :: h, k, g + 1, e => by
    have e' : b.length = h.length := by simpa using e
    rw [subR_cons, List.getD_cons_succ, List.getD_cons_succ, List.getD_cons_succ, subR_get e']
  | [], _ :: _, _, _, e => by simp at e
  | _ :: _, [], _, _, e => by simp at e
theorem sub_sub : ∀ {v u r : List Int} {k j : Int}, v.length = u.length → u.length = r.length → subR v (subR u r j) k = subR (subR v u k) r (-(k * j))
  | [], [], [], _, _, _, _ => rfl
  | x :: v, y :: u, z :: r, k, j, e1, e2 => by
    have e1' : v.length = u.length := by simpa using e1
    have e2' : u.length = r.length := by simpa using e2
    rw [subR_cons, subR_cons, subR_cons, subR_cons, sub_sub e1' e2']
    congr 1
    grind
  | [], _ :: _, _, _, _, e, _ => by simp at e
  | _ :: _, [], _, _, _, e, _ => by simp at e
  | [], [], _ :: _, _, _, _, e => by simp at e
  | _ :: _, _ :: _, [], _, _, _, e => by simp at e
theorem sub_unit : ∀ r : List Int, subR (List.replicate r.length 0) r (-1) = r
  | [] => rfl
  | x :: r => by
    rw [List.length_cons, List.replicate_succ, subR_cons, sub_unit r]
    congr 1
    omega
/-- all rows of a length -/
def Len (n : Nat) (rows : List (List Int)) : Prop := ∀ r ∈ rows, r.length = n
/-- what whole numbers of rows come to -/
inductive Lat (n : Nat) (rows : List (List Int)) : List Int → Prop
  | nil : Lat n rows (List.replicate n 0)
  | more {v r : List Int} (k : Int) : Lat n rows v → r ∈ rows → Lat n rows (subR v r k)
section
variable {n : Nat} {rows rows' : List (List Int)} {v u : List Int}
theorem Lat.len (hr : Len n rows) (h : Lat n rows v) : v.length = n := by
  induction h with
  | nil => exact List.length_replicate
  | more k h m ih => rw [subR_len (by rw [ih, hr _ m]), ih]
theorem Lat.sub (hr : Len n rows) (hv : Lat n rows v) (hu : Lat n rows u) (k : Int) : Lat n rows (subR v u k) := by
  induction hu with
  | nil =>
    rw [subR_nought (hv.len hr)]
    exact hv
  | more j h m ih =>
    rw [sub_sub (by rw [hv.len hr, h.len hr]) (by rw [h.len hr, hr _ m])]
    exact .more _ ih m
theorem Lat.one (hr : Len n rows) {r : List Int} (m : r ∈ rows) : Lat n rows r := by
  have e := sub_unit r
  rw [hr r m] at e
  rw [← e]
  exact .more _ .nil m
theorem Lat.mono (hr : Len n rows') (h : ∀ r ∈ rows, Lat n rows' r) (hv : Lat n rows v) : Lat n rows' v := by
  induction hv with
  | nil => exact .nil
  | more k _ m ih => exact ih.sub hr (h _ m) k
theorem Lat.dvd {x : List Int} {d : Int} (hr : Len n rows) (h : ∀ r ∈ rows, d ∣ dotI r x) (hv : Lat n rows v) : d ∣ dotI v x := by
  induction hv with
  | nil => rw [dot_rep]; exact Int.dvd_zero d
  | more k hv m ih =>
    rw [dot_sub (by rw [hv.len hr, hr _ m])]
    exact Int.dvd_sub ih (Int.dvd_mul_of_dvd_right (h _ m))
theorem Lat.at0 {g : Nat} (hr : Len n rows) (h : ∀ r ∈ rows, r.getD g 0 = 0) (hv : Lat n rows v) : v.getD g 0 = 0 := by
  induction hv with
  | nil => rw [List.getD_eq_getElem?_getD, List.getElem?_replicate]; split <;> rfl
  | more k hv m ih =>
    rw [subR_get (by rw [hv.len hr, hr _ m]), ih, h _ m]
    omega
end
/-- two lots of rows that come to the same -/
def SameLat (n : Nat) (A B : List (List Int)) : Prop := (∀ r ∈ A, Lat n B r) ∧ ∀ r ∈ B, Lat n A r
theorem SameLat.refl {n : Nat} {A : List (List Int)} (h : Len n A) : SameLat n A A := ⟨fun r m => .one h m, fun r m => .one h m⟩
theorem SameLat.trans {n : Nat} {A B C : List (List Int)} (hA : Len n A) (hC : Len n C) (h1 : SameLat n A B) (h2 : SameLat n B C) : SameLat n A C :=
  ⟨fun r m => Lat.mono hC h2.1 (h1.1 r m), fun r m => Lat.mono hA h1.2 (h2.2 r m)⟩
theorem SameLat.of_mem {n : Nat} {A B : List (List Int)} (hA : Len n A) (hB : Len n B) (h : ∀ r, r ∈ A ↔ r ∈ B) : SameLat n A B := ⟨fun r m => .one hB ((h r).mp m), fun r m => .one hA ((h r).mpr m)⟩
theorem SameLat.lat {n : Nat} {A B : List (List Int)} (hA : Len n A) (hB : Len n B) (h : SameLat n A B) {v : List Int} : Lat n A v ↔ Lat n B v := ⟨Lat.mono hB h.1, Lat.mono hA h.2⟩
/-! ### one row less another -/
/-- what is left at b's side of a -/
theorem fdiv_pos {a b : Int} (hb : 0 < b) : 0 ≤ a - a.fdiv b * b ∧ a - a.fdiv b * b < b := by
  rw [Int.fdiv_eq_ediv_of_nonneg _ (by omega)]
  have h1 := Int.emod_nonneg a (show b ≠ 0 by omega)
  have h2 := Int.emod_lt_of_pos a hb
  have h3 := Int.emod_def a b
  rw [Int.mul_comm] at h3
  omega
theorem fdiv_flip {a b : Int} : a.fdiv b = (-a).fdiv (-b) := by
  rw [Int.neg_fdiv_neg]
theorem fdiv_neg {a b : Int} (hb : b < 0) : b < a - a.fdiv b * b ∧ a - a.fdiv b * b ≤ 0 := by
  have h := fdiv_pos (a := -a) (b := -b) (by omega)
  rw [← fdiv_flip, Int.mul_neg] at h
  omega
/-- with a sign s: what is left is from 0 to below b -/
theorem fdiv_s {s a b : Int} (hs : s = 1 ∨ s = -1) (hb : 0 < s * b) : 0 ≤ s * (a - a.fdiv b * b) ∧ s * (a - a.fdiv b * b) < s * b := by
  rcases hs with rfl | rfl
  · have := fdiv_pos (a := a) (b := b) (by omega)
    omega
  · have := fdiv_neg (a := a) (b := b) (by omega)
    omega
end HL

namespace HL
/-! ### rows brought to one at a place: one turn -/
abbrev pz (p : Nat) (r : List Int) : Int := r.getD p 0
def Ent (M : Int) (r : List Int) : Prop := ∀ x ∈ r, -M ≤ x ∧ x ≤ M
theorem Ent.mono {M M' : Int} {r : List Int} (h : Ent M r) (le : M ≤ M') : Ent M' r := fun x hx => by
  have := h x hx
  omega
theorem Ent.at {M : Int} {r : List Int} (h : Ent M r) (h0 : 0 ≤ M) (p : Nat) : -M ≤ pz p r ∧ pz p r ≤ M := by
  unfold pz
  rw [List.getD_eq_getElem?_getD]
  cases e : r[p]? with
  | none => exact ⟨by show -M ≤ 0; omega, h0⟩
  | some x => exact h x (List.mem_of_getElem? e)
theorem sub_ent : ∀ {r l : List Int} {q M B t : Int}, 0 ≤ t → -t ≤ q → q ≤ t → 0 ≤ B → Ent M r → Ent B l → Ent (M + t * B) (subR r l q)
  | [], _, q, M, B, t, _, _, _, _, _, _ => fun x hx => by cases hx
  | _ :: _, [], q, M, B, t, _, _, _, _, _, _ => fun x hx => by cases hx
  | x :: r, y :: l, q, M, B, t, t0, q1, q2, b0, h1, h2 => fun z hz => by
    rw [subR_cons] at hz
    rcases List.mem_cons.mp hz with e | e
    · have hx := h1 x List.mem_cons_self
      have hy := h2 y List.mem_cons_self
      have k1 : q * y ≤ t * B := by
        rcases Int.le_total 0 y with c | c
        · exact Int.le_trans (Int.mul_le_mul_of_nonneg_right q2 c) (Int.mul_le_mul_of_nonneg_left hy.2 t0)
        · have h3 : (-q) * (-y) ≤ t * (-y) := Int.mul_le_mul_of_nonneg_right (by omega) (by omega)
          have h4 : t * (-y) ≤ t * B := Int.mul_le_mul_of_nonneg_left (by omega) t0
          rw [Int.neg_mul_neg] at h3
          omega
      have k2 : -(t * B) ≤ q * y := by
        rcases Int.le_total 0 y with c | c
        · have h3 : (-q) * y ≤ t * y := Int.mul_le_mul_of_nonneg_right (by omega) c
          have h4 : t * y ≤ t * B := Int.mul_le_mul_of_nonneg_left hy.2 t0
          rw [Int.neg_mul] at h3
          omega
        · have h3 : q * (-y) ≤ t * (-y) := Int.mul_le_mul_of_nonneg_right q2 (by omega)
          have h4 : t * (-y) ≤ t * B := Int.mul_le_mul_of_nonneg_left (by omega) t0
          rw [Int.mul_neg] at h3
          omega
      rw [e]
      omega
    · exact sub_ent t0 q1 q2 b0 (fun w hw => h1 w (List.mem_cons_of_mem _ hw)) (fun w hw => h2 w (List.mem_cons_of_mem _ hw)) z e
/-- a row less the least one, as often as that goes into it at p -/
def red (p : Nat) (l r : List Int) : List Int := subR r l ((pz p r).fdiv (pz p l))
theorem red_len {n p : Nat} {l r : List Int} (hl : l.length = n) (hr : r.length = n) : (red p l r).length = n := by
  unfold red
  rw [subR_len (by rw [hl, hr]), hr]
theorem red_at {n p : Nat} {l r : List Int} (hl : l.length = n) (hr : r.length = n) : pz p (red p l r) = pz p r - (pz p r).fdiv (pz p l) * pz p l := by
  unfold red
  exact subR_get (by rw [hl, hr])
theorem absI_eq (z : Int) : absI z = z ∧ 0 ≤ z ∨ absI z = -z ∧ z < 0 := by
  unfold absI
  split
  · exact .inr ⟨rfl, by omega⟩
  · exact .inl ⟨rfl, by omega⟩
/-- the numbers at p, all of one sign s -/
theorem red_s {n p : Nat} {l r : List Int} {s : Int} (hl : l.length = n) (hr : r.length = n) (hs : s = 1 ∨ s = -1) (hb : 0 < s * pz p l) : 0 ≤ s * pz p (red p l r) ∧ s * pz p (red p l r) < s * pz p l := by
  rw [red_at hl hr]
  exact fdiv_s hs hb
/-- one of the same sign that is no less: how often, and what is left -/
theorem quot_s {s a b A : Int} (hs : s = 1 ∨ s = -1) (hb : 0 < s * b) (hab : s * b ≤ s * a) (hA : s * a ≤ A) : 0 ≤ a.fdiv b ∧ a.fdiv b ≤ A / (s * b) ∧ s * (a - a.fdiv b * b) ≤ A - s * b := by
  have h := fdiv_s (a := a) hs hb
  have e : s * (a - a.fdiv b * b) = s * a - a.fdiv b * (s * b) := by rw [Int.mul_sub, Int.mul_left_comm]
  rw [e] at h ⊢
  generalize a.fdiv b = q at h ⊢
  generalize s * b = c at *
  have q1 : 1 ≤ q := by
    rcases Int.lt_or_le q 1 with z | z
    · exfalso
      have : q * c ≤ 0 * c := Int.mul_le_mul_of_nonneg_right (by omega) (by omega)
      omega
    · exact z
  have q2 : 1 * c ≤ q * c := Int.mul_le_mul_of_nonneg_right q1 (by omega)
  refine ⟨by omega, Int.le_ediv_of_mul_le hb (by omega), by omega⟩
/-- one of any sign: how often -/
theorem quot_any {a b M : Int} (hb : b ≠ 0) (h1 : -M ≤ a) (h2 : a ≤ M) : -(M + 1) ≤ a.fdiv b ∧ a.fdiv b ≤ M + 1 := by
  have key : ∀ {a b : Int}, 0 < b → -M ≤ a → a ≤ M → -(M + 1) ≤ a.fdiv b ∧ a.fdiv b ≤ M + 1 := fun {a b} hb h1 h2 => by
    have h := fdiv_pos (a := a) hb
    generalize a.fdiv b = q at h
    constructor
    · rcases Int.lt_or_le q (-(M + 1)) with z | z
      · exfalso
        have : q * b ≤ (-(M + 1) - 1) * b := Int.mul_le_mul_of_nonneg_right (by omega) (by omega)
        have e : (-(M + 1) - 1) * b = -(M + 1) * b - b := by rw [Int.sub_mul, Int.one_mul]
        have e2 : (-(M + 1)) * b ≤ (-(M + 1)) * 1 := by
          have : (M + 1) * 1 ≤ (M + 1) * b := Int.mul_le_mul_of_nonneg_left (by omega) (by omega)
          rw [Int.neg_mul, Int.neg_mul]
          omega
        omega
      · exact z
    · rcases Int.lt_or_le (M + 1) q with z | z
      · exfalso
        have : (M + 1) * b ≤ q * b := Int.mul_le_mul_of_nonneg_right (by omega) (by omega)
        have : (M + 1) * 1 ≤ (M + 1) * b := Int.mul_le_mul_of_nonneg_left (by omega) (by omega)
        omega
      · exact z
  rcases Int.lt_or_gt_of_ne hb with c | c
  · rw [fdiv_flip]
    exact key (by omega) (by omega) (by omega)
  · exact key c h1 h2
/-! ### how great rows get -/
/-- the bound of what comes of rows to M -/
abbrev big (M : Int) : Int := 6 * (M * M * M * (M * M * M))
theorem pos_mul {a b : Int} (ha : 1 ≤ a) (hb : 1 ≤ b) : 1 ≤ a * b := by
  have : 1 * 1 ≤ a * b := Int.mul_le_mul ha hb (by decide) (by omega)
  omega
theorem le_mul_r {a b : Int} (ha : 0 ≤ a) (hb : 1 ≤ b) : a ≤ a * b := by
  have : a * 1 ≤ a * b := Int.mul_le_mul_of_nonneg_left hb ha
  omega
/-- where all are of one sign: the next turn's numbers -/
theorem next_pot {M A b c : Int} (hM : 1 ≤ M) (hb : 1 ≤ b) (hc : 1 ≤ c) (hbA : b ≤ A) (hcb : c ≤ b) (hcA : c ≤ A - b) :
    M * (1 + A / b) * (b * b) * (c * c) ≤ M * (A * A) * (b * b) := by
  have t0 : 0 ≤ A / b := Int.ediv_nonneg (by omega) (by omega)
  have t1 : b * (A / b) ≤ A := Int.mul_ediv_self_le (by omega)
  generalize A / b = t at t0 t1
  have k1 : (1 + t) * (c * c) ≤ (1 + t) * (b * c) := Int.mul_le_mul_of_nonneg_left (Int.mul_le_mul_of_nonneg_right hcb (by omega)) (by omega)
  have k2 : (1 + t) * (b * c) = (b + b * t) * c := by grind
  have k3 : (b + b * t) * c ≤ (A + A) * c := Int.mul_le_mul_of_nonneg_right (by omega) (by omega)
  have k4 : (A + A) * c = A * (c + c) := by grind
  have k5 : A * (c + c) ≤ A * A := Int.mul_le_mul_of_nonneg_left (by omega) (by omega)
  have k6 : (1 + t) * (c * c) ≤ A * A := by omega
  have k7 : M * (1 + t) * (b * b) * (c * c) = (M * (b * b)) * ((1 + t) * (c * c)) := by grind
  have k8 : M * (A * A) * (b * b) = (M * (b * b)) * (A * A) := by grind
  rw [k7, k8]
  have := pos_mul hM (pos_mul hb hb)
  exact Int.mul_le_mul_of_nonneg_left k6 (by omega)
theorem next_big {M A b E : Int} (hM : 1 ≤ M) (hb : 1 ≤ b) (hbA : b ≤ A) (h : M * (A * A) * (b * b) ≤ E) : M * (1 + A / b) ≤ 2 * E := by
  have t0 : 0 ≤ A / b := Int.ediv_nonneg (by omega) (by omega)
  have t1 : A / b ≤ A := Int.ediv_le_self b (by omega)
  have k1 : M * (1 + A / b) ≤ M * (A + A) := Int.mul_le_mul_of_nonneg_left (by omega) (by omega)
  have k2 : M * (A + A) = 2 * (M * A) := by grind
  have k3 : M * A ≤ M * A * A := le_mul_r (by have := pos_mul hM (show 1 ≤ A by omega); omega) (by omega)
  have k4 : M * (A * A) ≤ M * (A * A) * (b * b) := le_mul_r (by have := pos_mul hM (pos_mul (show 1 ≤ A by omega) (show 1 ≤ A by omega)); omega) (pos_mul hb hb)
  have k5 : M * A * A = M * (A * A) := Int.mul_assoc _ _ _
  omega
theorem first_pot {M b c : Int} (hM : 1 ≤ M) (hb : 1 ≤ b) (hc : 1 ≤ c) (hbM : b ≤ M) (hcM : c ≤ M) : 3 * (M * M) * (b * b) * (c * c) ≤ 3 * (M * M * M * (M * M * M)) := by
  have k1 : b * b ≤ M * M := Int.mul_le_mul hbM hbM (by omega) (by omega)
  have k2 : c * c ≤ M * M := Int.mul_le_mul hcM hcM (by omega) (by omega)
  have k3 : (b * b) * (c * c) ≤ (M * M) * (M * M) := Int.mul_le_mul k1 k2 (by have := pos_mul hc hc; omega) (by have := pos_mul hM hM; omega)
  have k4 : 3 * (M * M) * (b * b) * (c * c) = 3 * (M * M) * ((b * b) * (c * c)) := by grind
  have k5 : 3 * (M * M * M * (M * M * M)) = 3 * (M * M) * ((M * M) * (M * M)) := by grind
  rw [k4, k5]
  exact Int.mul_le_mul_of_nonneg_left k3 (by have := pos_mul hM hM; omega)
theorem first_big {M : Int} (hM : 1 ≤ M) : M + (M + 1) * M ≤ 3 * (M * M) ∧ 3 * (M * M) ≤ big M ∧ M ≤ big M := by
  have h1 := pos_mul hM hM
  have h2 : M ≤ M * M := le_mul_r (by omega) hM
  have h3 : M * M ≤ M * M * (M * M) := le_mul_r (by omega) h1
  have h4 : M * M * (M * M) ≤ M * M * (M * M) * (M * M) := le_mul_r (by omega) h1
  have e : M * M * (M * M) * (M * M) = M * M * M * (M * M * M) := by grind
  have e2 : (M + 1) * M = M * M + M := by grind
  show _ ∧ _ ≤ 6 * (M * M * M * (M * M * M)) ∧ _ ≤ 6 * (M * M * M * (M * M * M))
  omega
/-- rows on the way: nought at none of them; at first to M, later of one sign -/
structure Red (n p : Nat) (M0 : Int) (at_ : List (List Int)) : Prop where
  len : Len n at_
  nz : ∀ r ∈ at_, pz p r ≠ 0
  st : (∀ r ∈ at_, Ent M0 r) ∨ ∃ s M A : Int, (s = 1 ∨ s = -1) ∧ 1 ≤ M ∧ M ≤ big M0 ∧ (∀ r ∈ at_, Ent M r ∧ 0 < s * pz p r ∧ s * pz p r ≤ A) ∧ (2 ≤ at_.length → ∃ r ∈ at_, M * (A * A) * (s * pz p r * (s * pz p r)) ≤ 3 * (M0 * M0 * M0 * (M0 * M0 * M0)))
theorem Red.ent {n p : Nat} {M0 : Int} {at_ : List (List Int)} (h : Red n p M0 at_) (hM : 1 ≤ M0) : ∀ r ∈ at_, Ent (big M0) r := fun r hr => by
  rcases h.st with z | ⟨s, M, A, _, _, h2, h3, _⟩
  · exact (z r hr).mono (first_big hM).2.2
  · exact (h3 r hr).1.mono h2
def msr (p : Nat) (l : List (List Int)) : Nat := (l.map fun r => (pz p r).natAbs).sum
def isNz (p : Nat) (r : List Int) : Bool := decide (pz p r ≠ 0)
theorem step_red {n p : Nat} {M0 : Int} {at_ rest : List (List Int)} {l : List Int} (hM : 1 ≤ M0) (h : Red n p M0 at_) (h2 : 2 ≤ at_.length) (hp : (l :: rest).Perm at_) (hl : ∀ r ∈ rest, absI (pz p l) ≤ absI (pz p r)) :
    Red n p M0 (l :: (rest.map (red p l)).filter (isNz p)) ∧ ∀ r ∈ rest.map (red p l), r.length = n ∧ Ent (big M0) r := by
  have ml : l ∈ at_ := hp.mem_iff.mp List.mem_cons_self
  have mr : ∀ r ∈ rest, r ∈ at_ := fun r hr => hp.mem_iff.mp (List.mem_cons_of_mem _ hr)
  have ll := h.len l ml
  have lr : ∀ r ∈ rest, r.length = n := fun r hr => h.len r (mr r hr)
  have nl := h.nz l ml
  -- a sign, a bound, what is left
  have key : ∃ s M : Int, (s = 1 ∨ s = -1) ∧ 0 < s * pz p l ∧ 1 ≤ M ∧ M ≤ big M0 ∧ Ent M l ∧ (∀ r ∈ rest, Ent M (red p l r)) ∧
      ∀ r ∈ rest, pz p (red p l r) ≠ 0 → M * (s * pz p l * (s * pz p l)) * (s * pz p (red p l r) * (s * pz p (red p l r))) ≤ 3 * (M0 * M0 * M0 * (M0 * M0 * M0)) := by
    rcases h.st with z | ⟨s, M, A, hs, hM1, hMb, hr, hpot⟩
    · obtain ⟨f1, f2, f3⟩ := first_big hM
      have hla := (z l ml).at (by omega) p
      obtain ⟨s, hs, hsl⟩ : ∃ s : Int, (s = 1 ∨ s = -1) ∧ 0 < s * pz p l := by
        rcases Int.lt_or_gt_of_ne nl with c | c
        · exact ⟨-1, .inr rfl, by omega⟩
        · exact ⟨1, .inl rfl, by omega⟩
      refine ⟨s, 3 * (M0 * M0), hs, hsl, by have := pos_mul hM hM; omega, f2, (z l ml).mono ?_, fun r hr => ?_, fun r hr hn => ?_⟩
      · have : M0 ≤ M0 * M0 := le_mul_r (by omega) hM
        omega
      · have hra := (z r (mr r hr)).at (by omega) p
        obtain ⟨q1, q2⟩ := quot_any nl hra.1 hra.2
        exact (sub_ent (t := M0 + 1) (by omega) q1 q2 (by omega) (z r (mr r hr)) (z l ml)).mono f1
      · obtain ⟨r1, r2⟩ := red_s ll (lr r hr) hs hsl
        have r3 : s * pz p (red p l r) ≠ 0 := by
          rcases hs with rfl | rfl <;> omega
        have hlM : s * pz p l ≤ M0 := by
          rcases hs with rfl | rfl <;> omega
        exact first_pot hM (by omega) (by omega) hlM (by omega)
    · obtain ⟨el, sl, lA⟩ := hr l ml
      obtain ⟨r0, hr0, pot0⟩ := hpot h2
      have lmin : s * pz p l ≤ s * pz p r0 := by
        rcases List.mem_cons.mp (hp.mem_iff.mpr hr0) with e | e
        · rw [e]
          exact Int.le_refl _
        · have h3 := hl r0 e
          have h4 := (hr r0 hr0).2.1
          rcases absI_eq (pz p l) with ⟨a1, a2⟩ | ⟨a1, a2⟩ <;> rcases absI_eq (pz p r0) with ⟨a3, a4⟩ | ⟨a3, a4⟩ <;> rcases hs with rfl | rfl <;> omega
      have pot : M * (A * A) * (s * pz p l * (s * pz p l)) ≤ 3 * (M0 * M0 * M0 * (M0 * M0 * M0)) := by
        refine Int.le_trans (Int.mul_le_mul_of_nonneg_left (Int.mul_le_mul lmin lmin (by omega) (by omega)) ?_) pot0
        have := pos_mul hM1 (pos_mul (show 1 ≤ A by omega) (show 1 ≤ A by omega))
        omega
      have t0 : 0 ≤ A / (s * pz p l) := Int.ediv_nonneg (by omega) (by omega)
      refine ⟨s, M * (1 + A / (s * pz p l)), hs, sl, pos_mul hM1 (by omega), ?_, el.mono (le_mul_r (by omega) (by omega)), fun r hr' => ?_, fun r hr' hn => ?_⟩
      · have := next_big hM1 (show 1 ≤ s * pz p l by omega) lA pot
        show _ ≤ 6 * _
        omega
      · obtain ⟨er, sr, rA⟩ := hr r (mr r hr')
        have rmin : s * pz p l ≤ s * pz p r := by
          have h3 := hl r hr'
          rcases absI_eq (pz p l) with ⟨a1, a2⟩ | ⟨a1, a2⟩ <;> rcases absI_eq (pz p r) with ⟨a3, a4⟩ | ⟨a3, a4⟩ <;> rcases hs with rfl | rfl <;> omega
        obtain ⟨q1, q2, _⟩ := quot_s hs sl rmin rA
        refine (sub_ent (t := A / (s * pz p l)) t0 (by omega) q2 (by omega) er el).mono ?_
        rw [Int.mul_add, Int.mul_one, Int.mul_comm M]
        exact Int.le_refl _
      · obtain ⟨er, sr, rA⟩ := hr r (mr r hr')
        have rmin : s * pz p l ≤ s * pz p r := by
          have h3 := hl r hr'
          rcases absI_eq (pz p l) with ⟨a1, a2⟩ | ⟨a1, a2⟩ <;> rcases absI_eq (pz p r) with ⟨a3, a4⟩ | ⟨a3, a4⟩ <;> rcases hs with rfl | rfl <;> omega
        obtain ⟨_, _, q3⟩ := quot_s hs sl rmin rA
        rw [← red_at ll (lr r hr')] at q3
        obtain ⟨r1, r2⟩ := red_s ll (lr r hr') hs sl
        have r3 : s * pz p (red p l r) ≠ 0 := by
          rcases hs with rfl | rfl <;> omega
        exact Int.le_trans (next_pot hM1 (by omega) (by omega) lA (by omega) q3) pot
  obtain ⟨s, M, hs, hsl, hM1, hMb, el, er, pot⟩ := key
  refine ⟨⟨fun r hr => ?_, fun r hr => ?_, .inr ⟨s, M, s * pz p l, hs, hM1, hMb, fun r hr => ?_, fun h3 => ?_⟩⟩, fun r hr => ?_⟩
  · rcases List.mem_cons.mp hr with e | e
    · rw [e]; exact ll
    · obtain ⟨r', hr', rfl⟩ := List.mem_map.mp (List.mem_filter.mp e).1
      exact red_len ll (lr r' hr')
  · rcases List.mem_cons.mp hr with e | e
    · rw [e]; exact nl
    · exact of_decide_eq_true (List.mem_filter.mp e).2
  · rcases List.mem_cons.mp hr with e | e
    · rw [e]; exact ⟨el, hsl, Int.le_refl _⟩
    · obtain ⟨r', hr', rfl⟩ := List.mem_map.mp (List.mem_filter.mp e).1
      obtain ⟨r1, r2⟩ := red_s ll (lr r' hr') hs hsl
      have hn : pz p (red p l r') ≠ 0 := of_decide_eq_true (List.mem_filter.mp e).2
      refine ⟨er r' hr', ?_, by omega⟩
      rcases hs with rfl | rfl <;> omega
  · obtain ⟨x, hx⟩ : ∃ x, x ∈ (rest.map (red p l)).filter (isNz p) := by
      cases e : (rest.map (red p l)).filter (isNz p) with
      | nil => rw [e] at h3; simp at h3
      | cons x xs => exact ⟨x, List.mem_cons_self⟩
    refine ⟨x, List.mem_cons_of_mem _ hx, ?_⟩
    obtain ⟨r', hr', rfl⟩ := List.mem_map.mp (List.mem_filter.mp hx).1
    exact pot r' hr' (of_decide_eq_true (List.mem_filter.mp hx).2)
  · obtain ⟨r', hr', rfl⟩ := List.mem_map.mp hr
    exact ⟨red_len ll (lr r' hr'), (er r' hr').mono hMb⟩
end HL

namespace HL
/-! ### the turns end, and come to the same -/
theorem sum_lt {α : Type} {f g : α → Nat} : ∀ {l : List α}, l ≠ [] → (∀ x ∈ l, f x < g x) → (l.map f).sum < (l.map g).sum
  | [x], _, h => by
    have := h x List.mem_cons_self
    simpa using this
  | x :: y :: l, _, h => by
    have h1 := h x List.mem_cons_self
    have h2 := sum_lt (l := y :: l) (by simp) fun z hz => h z (List.mem_cons_of_mem _ hz)
    simp only [List.map_cons, List.sum_cons] at h2 ⊢
    omega
theorem sum_filter {α : Type} {f : α → Nat} {p : α → Bool} : ∀ {l : List α}, ((l.filter p).map f).sum ≤ (l.map f).sum
  | [] => Nat.le_refl _
  | x :: l => by
    have := sum_filter (f := f) (p := p) (l := l)
    by_cases c : p x = true
    · rw [List.filter_cons_of_pos c, List.map_cons, List.map_cons, List.sum_cons, List.sum_cons]
      omega
    · rw [List.filter_cons_of_neg c, List.map_cons, List.sum_cons]
      omega
theorem red_less {n p : Nat} {l r : List Int} (hl : l.length = n) (hr : r.length = n) (nl : pz p l ≠ 0) : (pz p (red p l r)).natAbs < (pz p l).natAbs := by
  rcases Int.lt_or_gt_of_ne nl with c | c
  · have := red_s (p := p) (s := -1) hl hr (.inr rfl) (by omega)
    omega
  · have := red_s (p := p) (s := 1) hl hr (.inl rfl) (by omega)
    omega
theorem step_msr {n p : Nat} {M0 : Int} {at_ rest : List (List Int)} {l : List Int} (h : Red n p M0 at_) (h2 : 2 ≤ at_.length) (hp : (l :: rest).Perm at_) (hl : ∀ r ∈ rest, absI (pz p l) ≤ absI (pz p r)) :
    msr p (l :: (rest.map (red p l)).filter (isNz p)) < msr p at_ := by
  have ml : l ∈ at_ := hp.mem_iff.mp List.mem_cons_self
  have mr : ∀ r ∈ rest, r ∈ at_ := fun r hr => hp.mem_iff.mp (List.mem_cons_of_mem _ hr)
  have e : msr p at_ = msr p (l :: rest) := by
    unfold msr
    exact (hp.map _).sum_nat.symm
  have hne : rest ≠ [] := fun z => by
    have := hp.length_eq
    rw [z] at this
    simp at this
    omega
  rw [e]
  unfold msr
  rw [List.map_cons, List.map_cons, List.sum_cons, List.sum_cons]
  have k1 := sum_filter (f := fun r => (pz p r).natAbs) (p := isNz p) (l := rest.map (red p l))
  rw [List.map_map] at k1
  have k2 := sum_lt (f := (fun r => (pz p r).natAbs) ∘ red p l) (g := fun r => (pz p r).natAbs) hne fun r hr => by
    have h1 := red_less (h.len l ml) (h.len r (mr r hr)) (h.nz l ml)
    have h3 := hl r hr
    show (pz p (red p l r)).natAbs < (pz p r).natAbs
    rcases absI_eq (pz p l) with ⟨a1, a2⟩ | ⟨a1, a2⟩ <;> rcases absI_eq (pz p r) with ⟨a3, a4⟩ | ⟨a3, a4⟩ <;> omega
  omega
theorem red_back {n p : Nat} {l r : List Int} (hl : l.length = n) (hr : r.length = n) : subR (red p l r) l (-((pz p r).fdiv (pz p l))) = r := by
  unfold red
  rw [subR_add, Int.add_right_neg, subR_zero (by rw [hl, hr])]
theorem step_lat {n p : Nat} {at_ rest oth : List (List Int)} {l : List Int} (hA : Len n at_) (hO : Len n oth) (hp : (l :: rest).Perm at_) :
    SameLat n (at_ ++ oth) ((l :: (rest.map (red p l)).filter (isNz p)) ++ (oth ++ (rest.map (red p l)).filter fun r => !isNz p r)) := by
  have ml : l ∈ at_ := hp.mem_iff.mp List.mem_cons_self
  have mr : ∀ r ∈ rest, r ∈ at_ := fun r hr => hp.mem_iff.mp (List.mem_cons_of_mem _ hr)
  have ll := hA l ml
  have hL1 : Len n (at_ ++ oth) := fun r hr => (List.mem_append.mp hr).elim (hA r) (hO r)
  have hred : ∀ r ∈ rest.map (red p l), r.length = n := fun r hr => by
    obtain ⟨r', hr', rfl⟩ := List.mem_map.mp hr
    exact red_len ll (hA r' (mr r' hr'))
  have hL2 : Len n ((l :: (rest.map (red p l)).filter (isNz p)) ++ (oth ++ (rest.map (red p l)).filter fun r => !isNz p r)) := fun r hr => by
    rcases List.mem_append.mp hr with z | z
    · rcases List.mem_cons.mp z with e | e
      · rw [e]; exact ll
      · exact hred r (List.mem_filter.mp e).1
    · rcases List.mem_append.mp z with e | e
      · exact hO r e
      · exact hred r (List.mem_filter.mp e).1
  have inB : ∀ r ∈ rest.map (red p l), r ∈ (l :: (rest.map (red p l)).filter (isNz p)) ++ (oth ++ (rest.map (red p l)).filter fun r => !isNz p r) := fun r hr => by
    cases c : isNz p r with
    | true => exact List.mem_append_left _ (List.mem_cons_of_mem _ (List.mem_filter.mpr ⟨hr, c⟩))
    | false => exact List.mem_append_right _ (List.mem_append_right _ (List.mem_filter.mpr ⟨hr, by simp [c]⟩))
  have lB : Lat n ((l :: (rest.map (red p l)).filter (isNz p)) ++ (oth ++ (rest.map (red p l)).filter fun r => !isNz p r)) l := .one hL2 (List.mem_append_left _ List.mem_cons_self)
  constructor
  · intro r hr
    rcases List.mem_append.mp hr with z | z
    · rcases List.mem_cons.mp (hp.mem_iff.mpr z) with e | e
      · rw [e]
        exact lB
      · have := (Lat.one hL2 (inB (red p l r) (List.mem_map.mpr ⟨r, e, rfl⟩))).sub hL2 lB (-((pz p r).fdiv (pz p l)))
        rw [red_back ll (hA r z)] at this
        exact this
    · exact .one hL2 (List.mem_append_right _ (List.mem_append_left _ z))
  · have lA : Lat n (at_ ++ oth) l := .one hL1 (List.mem_append_left _ ml)
    have redA : ∀ r ∈ rest.map (red p l), Lat n (at_ ++ oth) r := fun r hr => by
      obtain ⟨r', hr', rfl⟩ := List.mem_map.mp hr
      exact (Lat.one hL1 (List.mem_append_left _ (mr r' hr'))).sub hL1 lA _
    intro r hr
    rcases List.mem_append.mp hr with z | z
    · rcases List.mem_cons.mp z with e | e
      · rw [e]; exact lA
      · exact redA r (List.mem_filter.mp e).1
    · rcases List.mem_append.mp z with e | e
      · exact .one hL1 (List.mem_append_right _ e)
      · exact redA r (List.mem_filter.mp e).1
/-! ### with_one_at: the loop -/
structure WInv (n p : Nat) (M : Int) (rows at_ oth : List (List Int)) : Prop where
  rd : Red n p M at_
  len : Len n oth
  zero : ∀ r ∈ oth, pz p r = 0
  same : SameLat n rows (at_ ++ oth)
  count : at_.length + oth.length = rows.length
  ent : (∀ r ∈ at_ ++ oth, Ent M r) ∨ (2 ≤ rows.length ∧ 1 ≤ at_.length ∧ ∀ r ∈ at_ ++ oth, Ent (big M) r)
theorem WInv.lenA {n p : Nat} {M : Int} {rows at_ oth : List (List Int)} (h : WInv n p M rows at_ oth) : Len n (at_ ++ oth) := fun r hr => (List.mem_append.mp hr).elim (h.rd.len r) (h.len r)
theorem filter_count {α : Type} {p : α → Bool} : ∀ {l : List α}, (l.filter p).length + (l.filter fun x => !p x).length = l.length
  | [] => rfl
  | x :: l => by
    have := filter_count (p := p) (l := l)
    cases c : p x with
    | true =>
      rw [List.filter_cons_of_pos c, List.filter_cons_of_neg (by simp [c]), List.length_cons, List.length_cons]
      omega
    | false =>
      rw [List.filter_cons_of_neg (by simp [c]), List.filter_cons_of_pos (by simp [c]), List.length_cons, List.length_cons]
      omega
theorem WInv.start {n p : Nat} {M : Int} {rows : List (List Int)} (hL : Len n rows) (hE : ∀ r ∈ rows, Ent M r) : WInv n p M rows (rows.filter (isNz p)) (rows.filter fun r => !isNz p r) := by
  have mA : ∀ r ∈ rows.filter (isNz p), r ∈ rows := fun r hr => (List.mem_filter.mp hr).1
  have mO : ∀ r ∈ rows.filter (fun r => !isNz p r), r ∈ rows := fun r hr => (List.mem_filter.mp hr).1
  have hLA : Len n (rows.filter (isNz p) ++ rows.filter fun r => !isNz p r) := fun r hr => (List.mem_append.mp hr).elim (fun z => hL r (mA r z)) (fun z => hL r (mO r z))
  refine ⟨⟨fun r hr => hL r (mA r hr), fun r hr => of_decide_eq_true (List.mem_filter.mp hr).2, .inl fun r hr => hE r (mA r hr)⟩, fun r hr => hL r (mO r hr), fun r hr => ?_, SameLat.of_mem hL hLA fun r => ⟨fun hr => ?_, fun hr => (List.mem_append.mp hr).elim (mA r) (mO r)⟩, filter_count,
    .inl fun r hr => (List.mem_append.mp hr).elim (fun z => hE r (mA r z)) (fun z => hE r (mO r z))⟩
  · have := (List.mem_filter.mp hr).2
    by_cases c : pz p r = 0
    · exact c
    · unfold isNz at this
      rw [decide_eq_true c] at this
      cases this
  · cases c : isNz p r with
    | true => exact List.mem_append_left _ (List.mem_filter.mpr ⟨hr, c⟩)
    | false => exact List.mem_append_right _ (List.mem_filter.mpr ⟨hr, by simp [c]⟩)
theorem WInv.step {n p : Nat} {M : Int} {rows at_ oth rest : List (List Int)} {l : List Int} (hM : 1 ≤ M) (hR : Len n rows) (h : WInv n p M rows at_ oth) (h2 : 2 ≤ at_.length) (hp : (l :: rest).Perm at_) (hl : ∀ r ∈ rest, absI (pz p l) ≤ absI (pz p r)) :
    WInv n p M rows (l :: (rest.map (red p l)).filter (isNz p)) (oth ++ (rest.map (red p l)).filter fun r => !isNz p r) := by
  obtain ⟨s1, s2⟩ := step_red hM h.rd h2 hp hl
  have hLO : Len n (oth ++ (rest.map (red p l)).filter fun r => !isNz p r) := fun r hr => (List.mem_append.mp hr).elim (h.len r) (fun z => (s2 r (List.mem_filter.mp z).1).1)
  have hLB : Len n ((l :: (rest.map (red p l)).filter (isNz p)) ++ (oth ++ (rest.map (red p l)).filter fun r => !isNz p r)) := fun r hr => (List.mem_append.mp hr).elim (s1.len r) (hLO r)
  have eO : ∀ r ∈ oth, Ent (big M) r := fun r hr => by
    rcases h.ent with z | ⟨_, _, z⟩
    · exact (z r (List.mem_append_right _ hr)).mono (first_big hM).2.2
    · exact z r (List.mem_append_right _ hr)
  refine ⟨s1, hLO, fun r hr => ?_, h.same.trans hR hLB (step_lat h.rd.len h.len hp), ?_, .inr ⟨by have := h.count; omega, by rw [List.length_cons]; omega, fun r hr => ?_⟩⟩
  · rcases List.mem_append.mp hr with z | z
    · exact h.zero r z
    · have := (List.mem_filter.mp z).2
      by_cases c : pz p r = 0
      · exact c
      · unfold isNz at this
        rw [decide_eq_true c] at this
        cases this
  · have e1 := filter_count (p := isNz p) (l := rest.map (red p l))
    have e2 := hp.length_eq
    have e3 := h.count
    rw [List.length_map] at e1
    rw [List.length_cons] at e2 ⊢
    rw [List.length_append]
    omega
  · rcases List.mem_append.mp hr with z | z
    · exact s1.ent hM r z
    · rcases List.mem_append.mp z with e | e
      · exact eO r e
      · exact (s2 r (List.mem_filter.mp e).1).2
/-- what with_one_at tells -/
structure OneAt (n p : Nat) (M : Int) (rows at_ oth : List (List Int)) : Prop where
  one : at_.length ≤ 1
  lenA : Len n at_
  lenO : Len n oth
  nz : ∀ r ∈ at_, pz p r ≠ 0
  zero : ∀ r ∈ oth, pz p r = 0
  same : SameLat n rows (at_ ++ oth)
  count : at_.length + oth.length = rows.length
  ent : (∀ r ∈ at_ ++ oth, Ent M r) ∨ (2 ≤ rows.length ∧ at_.length = 1 ∧ ∀ r ∈ at_ ++ oth, Ent (big M) r)
theorem WInv.done {n p : Nat} {M : Int} {rows at_ oth : List (List Int)} (h : WInv n p M rows at_ oth) (h1 : at_.length ≤ 1) : OneAt n p M rows at_ oth :=
  ⟨h1, h.rd.len, h.len, h.rd.nz, h.zero, h.same, h.count, h.ent.imp id fun ⟨c, a, b⟩ => ⟨c, by omega, b⟩⟩
/-! ### stairs -/
structure Ech (n : Nat) (st : List (Nat × List Int)) : Prop where
  rise : st.Pairwise fun a b => a.1 < b.1
  ok : ∀ q ∈ st, q.1 < n ∧ q.2.length = n ∧ pz q.1 q.2 ≠ 0 ∧ ∀ j, j < q.1 → pz j q.2 = 0
theorem Ech.tail {n : Nat} {q : Nat × List Int} {st : List (Nat × List Int)} (h : Ech n (q :: st)) : Ech n st := ⟨(List.pairwise_cons.mp h.rise).2, fun x hx => h.ok x (List.mem_cons_of_mem _ hx)⟩
/-- the product of the numbers at which stairs begin -/
def whole (st : List (Nat × List Int)) : Int := st.foldl (fun w q => w * absI (pz q.1 q.2)) 1
theorem foldl_mul : ∀ {l : List (Nat × List Int)} {a : Int}, l.foldl (fun w q => w * absI (pz q.1 q.2)) a = a * whole l
  | [], a => by show a = a * 1; omega
  | q :: l, a => by
    unfold whole
    rw [List.foldl_cons, List.foldl_cons, foldl_mul, foldl_mul (a := 1 * _)]
    grind
theorem whole_cons {q : Nat × List Int} {st : List (Nat × List Int)} : whole (q :: st) = absI (pz q.1 q.2) * whole st := by
  show List.foldl _ (1 * absI (pz q.1 q.2)) st = _
  rw [foldl_mul, Int.one_mul]
theorem whole_pos {n : Nat} : ∀ {st : List (Nat × List Int)}, Ech n st → 1 ≤ whole st
  | [], _ => Int.le_refl _
  | q :: st, h => by
    rw [whole_cons]
    refine pos_mul ?_ (whole_pos h.tail)
    have := (h.ok q List.mem_cons_self).2.2.1
    rcases absI_eq (pz q.1 q.2) with ⟨a, b⟩ | ⟨a, b⟩ <;> omega
/-- a row that comes to the sums with each stair, begun otherwise as told -/
def comeTo : List (Nat × List Int) → List Int → List Int → List Int
  | [], _, x => x
  | q :: st, ss, x => (comeTo st ss.tail x).set q.1 ((ss.headD 0 - dotI q.2 (comeTo st ss.tail x)).fdiv (pz q.1 q.2))
theorem come_len : ∀ {st : List (Nat × List Int)} {ss x : List Int}, (comeTo st ss x).length = x.length
  | [], _, _ => rfl
  | q :: st, ss, x => by
    show ((comeTo st ss.tail x).set _ _).length = _
    rw [List.length_set, come_len]
theorem get_set {l : List Int} {p j : Nat} {v : Int} (hp : p < l.length) : (l.set p v).getD j 0 = if j = p then v else l.getD j 0 := by
  rw [List.getD_eq_getElem?_getD, List.getElem?_set]
  by_cases c : p = j
  · rw [if_pos c, if_pos hp, if_pos c.symm]
    rfl
  · rw [if_neg c, if_neg (fun z => c z.symm), List.getD_eq_getElem?_getD]
/-- the sum with one number put in -/
theorem dot_set : ∀ {h y : List Int} {p : Nat} {v : Int}, h.length = y.length → p < y.length → dotI h (y.set p v) = dotI h y + pz p h * (v - pz p y)
  | a :: h, b :: y, 0, v, e, _ => by
    rw [List.set_cons_zero, dotI_cons, dotI_cons]
    show a * v + _ = a * b + _ + a * (v - b)
    grind
  | a :: h, b :: y, p + 1, v, e, hp => by
    have e' : h.length = y.length := by simpa using e
    rw [List.set_cons_succ, dotI_cons, dotI_cons, dot_set e' (by simpa using hp)]
    show a * b + (dotI h y + h.getD p 0 * (v - y.getD p 0)) = a * b + dotI h y + h.getD p 0 * (v - y.getD p 0)
    omega
  | [], [], _, _, _, hp => by simp at hp
  | [], _ :: _, _, _, e, _ => by simp at e
  | _ :: _, [], _, _, e, _ => by simp at e
/-- what stands at another place than where a stair begins stays -/
theorem come_keep : ∀ {st : List (Nat × List Int)} {ss x : List Int} {j : Nat}, (∀ q ∈ st, q.1 < x.length) → (∀ q ∈ st, q.1 ≠ j) → (comeTo st ss x).getD j 0 = x.getD j 0
  | [], _, _, _, _, _ => rfl
  | q :: st, ss, x, j, hl, h => by
    show ((comeTo st ss.tail x).set _ _).getD j 0 = _
    rw [get_set (by rw [come_len]; exact hl q List.mem_cons_self), if_neg (fun z => h q List.mem_cons_self z.symm)]
    exact come_keep (fun x hx => hl x (List.mem_cons_of_mem _ hx)) fun x hx => h x (List.mem_cons_of_mem _ hx)
theorem dvd_at {d : Int} {x : List Int} (h : ∀ n ∈ x, d ∣ n) (j : Nat) : d ∣ x.getD j 0 := by
  rw [List.getD_eq_getElem?_getD]
  cases e : x[j]? with
  | none => exact Int.dvd_zero d
  | some n => exact h n (List.mem_of_getElem? e)
theorem dvd_dot {d : Int} : ∀ {h x : List Int}, (∀ n ∈ x, d ∣ n) → d ∣ dotI h x
  | [], _, _ => by rw [dotI_nil]; exact Int.dvd_zero d
  | _ :: _, [], _ => by rw [dotI_nil2]; exact Int.dvd_zero d
  | a :: h, b :: x, hx => by
    rw [dotI_cons]
    exact Int.dvd_add (Int.dvd_mul_of_dvd_right (hx b List.mem_cons_self)) (dvd_dot fun n hn => hx n (List.mem_cons_of_mem _ hn))
theorem absI_dvd {a b : Int} (h : absI a ∣ b) : a ∣ b := by
  rcases absI_eq a with ⟨e, _⟩ | ⟨e, _⟩
  · rw [← e]; exact h
  · rw [e] at h
    exact Int.neg_dvd.mp h
theorem fdiv_exact {a b : Int} (h : b ∣ a) : b * a.fdiv b = a := by
  rw [Int.fdiv_eq_ediv_of_dvd h]
  exact Int.mul_ediv_cancel' h
/-- all divisions go: the row comes to the sums -/
theorem come_ok {n : Nat} : ∀ {st : List (Nat × List Int)} {ss x : List Int} {d : Int}, Ech n st → ss.length = st.length → x.length = n → (∀ q ∈ st, x.getD q.1 0 = 0) → (∀ s ∈ ss, whole st * d ∣ s) → (∀ s ∈ x, whole st * d ∣ s) →
    (∀ s ∈ comeTo st ss x, d ∣ s) ∧ ∀ (i : Nat) (q : Nat × List Int) (s : Int), st[i]? = some q → ss[i]? = some s → dotI q.2 (comeTo st ss x) = s
  | [], ss, x, d, _, _, _, _, _, hx => ⟨fun s hs => by
      have := hx s hs
      have e : whole [] * d = d := by show 1 * d = d; omega
      rw [e] at this
      exact this, fun i q s h _ => by simp at h⟩
  | q :: st, [], x, d, _, hl, _, _, _, _ => by simp at hl
  | q :: st, s0 :: ss, x, d, h, hl, hx, h0, hs, hxd => by
    obtain ⟨k1, k2, k3, k4⟩ := h.ok q List.mem_cons_self
    have ew : whole (q :: st) * d = whole st * (absI (pz q.1 q.2) * d) := by rw [whole_cons]; grind
    rw [ew] at hs hxd
    obtain ⟨i1, i2⟩ := come_ok (st := st) (ss := ss) (x := x) (d := absI (pz q.1 q.2) * d) h.tail (by simpa using hl) hx (fun q' hq => h0 q' (List.mem_cons_of_mem _ hq)) (fun s m => hs s (List.mem_cons_of_mem _ m)) hxd
    have np : ∀ q' ∈ st, q.1 < q'.1 := fun q' hq => (List.pairwise_cons.mp h.rise).1 q' hq
    have hpl : ∀ q' ∈ st, q'.1 < x.length := fun q' hq => by rw [hx]; exact (h.tail.ok q' hq).1
    have yp : (comeTo st ss x).getD q.1 0 = 0 := by
      rw [come_keep hpl fun q' hq => by have := np q' hq; omega]
      exact h0 q List.mem_cons_self
    have hyl : (comeTo st ss x).length = n := by rw [come_len, hx]
    have hd : absI (pz q.1 q.2) * d ∣ s0 - dotI q.2 (comeTo st ss x) := Int.dvd_sub (Int.dvd_trans (Int.dvd_mul_left _ _) (hs s0 List.mem_cons_self)) (dvd_dot i1)
    have hd2 : pz q.1 q.2 ∣ s0 - dotI q.2 (comeTo st ss x) := absI_dvd (Int.dvd_trans (Int.dvd_mul_right _ _) hd)
    have ex := fdiv_exact hd2
    have edef : comeTo (q :: st) (s0 :: ss) x = (comeTo st ss x).set q.1 ((s0 - dotI q.2 (comeTo st ss x)).fdiv (pz q.1 q.2)) := rfl
    rw [edef]
    generalize (s0 - dotI q.2 (comeTo st ss x)).fdiv (pz q.1 q.2) = v at ex
    refine ⟨fun s m => ?_, fun i q' s h1 h2 => ?_⟩
    · rcases List.mem_or_eq_of_mem_set m with z | z
      · exact Int.dvd_trans (Int.dvd_mul_left _ _) (i1 s z)
      · rw [z]
        rw [← ex] at hd
        have hd' : absI (pz q.1 q.2) * d ∣ absI (pz q.1 q.2) * v := by
          rcases absI_eq (pz q.1 q.2) with ⟨e, _⟩ | ⟨e, _⟩
          · rw [e] at hd ⊢; exact hd
          · rw [e] at hd ⊢
            rw [Int.neg_mul (pz q.1 q.2) v]
            exact Int.dvd_neg.mpr hd
        have hne : absI (pz q.1 q.2) ≠ 0 := by
          rcases absI_eq (pz q.1 q.2) with ⟨e, _⟩ | ⟨e, _⟩ <;> omega
        exact Int.dvd_of_mul_dvd_mul_left hne hd'
    · match i, h1, h2 with
      | 0, h1, h2 =>
        cases Option.some.inj h1
        cases Option.some.inj h2
        rw [dot_set (by rw [k2, hyl]) (by rw [hyl]; exact k1)]
        show _ + pz q.1 q.2 * (v - (comeTo st ss x).getD q.1 0) = _
        rw [yp, Int.sub_zero, ex]
        omega
      | i + 1, h1, h2 =>
        have h1' : st[i]? = some q' := by simpa using h1
        have h2' : ss[i]? = some s := by simpa using h2
        have m := List.mem_of_getElem? h1'
        obtain ⟨l1, l2, l3, l4⟩ := h.tail.ok q' m
        rw [dot_set (by rw [l2, hyl]) (by rw [hyl]; exact k1), l4 q.1 (np q' m), i2 i q' s h1' h2']
        omega
/-- nothing beyond k, where nothing was begun there and the sums of the stairs beyond are noughts -/
theorem come_zero {n k : Nat} : ∀ {st : List (Nat × List Int)} {ss x : List Int}, Ech n st → ss.length = st.length → x.length = n → (∀ j, k < j → x.getD j 0 = 0) → (∀ (i : Nat) (q : Nat × List Int) (s : Int), st[i]? = some q → ss[i]? = some s → k < q.1 → s = 0) → ∀ j, k < j → (comeTo st ss x).getD j 0 = 0
  | [], _, _, _, _, _, hx, _, j, hj => hx j hj
  | q :: st, [], _, _, hl, _, _, _, _, _ => by simp at hl
  | q :: st, s0 :: ss, x, h, hl, hx, h0, hs, j, hj => by
    have ih := come_zero (k := k) (st := st) (ss := ss) (x := x) h.tail (by simpa using hl) hx h0 (fun i q' s h1 h2 => hs (i + 1) q' s (by simpa using h1) (by simpa using h2))
    obtain ⟨k1, k2, k3, k4⟩ := h.ok q List.mem_cons_self
    have hyl : (comeTo st ss x).length = n := by rw [come_len, hx]
    show ((comeTo st ss x).set q.1 ((s0 - dotI q.2 (comeTo st ss x)).fdiv (pz q.1 q.2))).getD j 0 = 0
    rw [get_set (by rw [hyl]; exact k1)]
    by_cases c : j = q.1
    · rw [if_pos c]
      have e0 : s0 = 0 := hs 0 q s0 rfl rfl (by omega)
      have ed : dotI q.2 (comeTo st ss x) = 0 := by
        have : ∀ (h y : List Int), (∀ i, pz i h = 0 ∨ y.getD i 0 = 0) → dotI h y = 0 := by
          intro h
          induction h with
          | nil => intro y _; exact dotI_nil
          | cons a h ih =>
            intro y hy
            cases y with
            | nil => exact dotI_nil2
            | cons b y =>
              rw [dotI_cons, ih y fun i => hy (i + 1)]
              rcases hy 0 with z | z
              · have z : a = 0 := z
                rw [z]; omega
              · have z : b = 0 := z
                rw [z]; omega
        refine this _ _ fun i => ?_
        by_cases ci : i < q.1
        · exact .inl (k4 i ci)
        · exact .inr (ih i (by omega))
      rw [e0, ed]
      show (0 : Int).fdiv _ = 0
      exact Int.zero_fdiv _
    · rw [if_neg c]
      exact ih j hj
end HL

namespace HL
/-! ### papers -/
theorem dot_meet : ∀ {v x : List Int} {j : Nat}, v.length = x.length → (∀ i, i < j → v.getD i 0 = 0) → (∀ i, j < i → x.getD i 0 = 0) → dotI v x = v.getD j 0 * x.getD j 0
  | [], [], j, _, _, _ => by rw [dotI_nil]; simp
  | a :: v, b :: x, 0, e, h1, h2 => by
    have e' : v.length = x.length := by simpa using e
    have : dotI v x = 0 := by
      have : ∀ (v x : List Int), (∀ i, x.getD i 0 = 0) → dotI v x = 0 := by
        intro v
        induction v with
        | nil => intro x _; exact dotI_nil
        | cons a v ih =>
          intro x hx
          cases x with
          | nil => exact dotI_nil2
          | cons b x =>
            have z : b = 0 := hx 0
            rw [dotI_cons, ih x fun i => hx (i + 1), z]
            omega
      exact this v x fun i => h2 (i + 1) (by omega)
    rw [dotI_cons, this]
    show a * b + 0 = a * b
    omega
  | a :: v, b :: x, j + 1, e, h1, h2 => by
    have e' : v.length = x.length := by simpa using e
    have z : a = 0 := h1 0 (by omega)
    rw [dotI_cons, dot_meet (j := j) e' (fun i hi => h1 (i + 1) (by omega)) (fun i hi => h2 (i + 1) (by omega)), z]
    show 0 * b + v.getD j 0 * x.getD j 0 = v.getD j 0 * x.getD j 0
    omega
  | [], _ :: _, _, e, _, _ => by simp at e
  | _ :: _, [], _, e, _, _ => by simp at e
theorem all_zero : ∀ {v : List Int}, (∀ i, v.getD i 0 = 0) → v = List.replicate v.length 0
  | [], _ => rfl
  | a :: v, h => by
    have z : a = 0 := h 0
    have := all_zero (v := v) fun i => h (i + 1)
    rw [List.length_cons, List.replicate_succ, ← this, z]
/-- what a part's row is -/
structure PartRow (n : Nat) (st : List (Nat × List Int)) (i : Nat) (q : Nat × List Int) (x : List Int) : Prop where
  len : x.length = n
  dot : ∀ (t : Nat) (q' : Nat × List Int), st[t]? = some q' → dotI q'.2 x = if t = i then whole st else 0
  far : ∀ j, q.1 < j → x.getD j 0 = 0
/-- what a row beside is -/
structure BesideRow (n : Nat) (st : List (Nat × List Int)) (g : Nat) (y : List Int) : Prop where
  len : y.length = n
  dot : ∀ q ∈ st, dotI q.2 y = 0
  at_ : y.getD g 0 = whole st
  far : ∀ j, g < j → y.getD j 0 = 0
theorem lat_all {n : Nat} {st : List (Nat × List Int)} (h : Ech n st) (xs ys : Nat → List Int) (hx : ∀ i q, st[i]? = some q → PartRow n st i q (xs i)) (hy : ∀ g, g < n → (∀ q ∈ st, q.1 ≠ g) → BesideRow n st g (ys g)) :
    ∀ (m j : Nat) (v : List Int), n - j = m → v.length = n → (∀ i, i < j → v.getD i 0 = 0) → (∀ i q, st[i]? = some q → whole st ∣ dotI v (xs i)) → (∀ g, g < n → (∀ q ∈ st, q.1 ≠ g) → dotI v (ys g) = 0) → Lat n (st.map (·.2)) v
  | 0, j, v, e, hl, hz, _, _ => by
    have : v = List.replicate n 0 := by
      have := all_zero (v := v) fun i => by
        by_cases c : i < j
        · exact hz i c
        · rw [List.getD_eq_getElem?_getD, List.getElem?_eq_none (by omega)]
          rfl
      rw [hl] at this
      exact this
    rw [this]
    exact .nil
  | m + 1, j, v, e, hl, hz, h1, h2 => by
    have hjn : j < n := by omega
    have hw := whole_pos h
    by_cases c : ∃ (i : Nat) (q : Nat × List Int), st[i]? = some q ∧ q.1 = j
    · obtain ⟨i, q, hq, rfl⟩ := c
      obtain ⟨k1, k2, k3, k4⟩ := h.ok q (List.mem_of_getElem? hq)
      obtain ⟨p1, p2, p3⟩ := hx i q hq
      have d1 := dot_meet (v := v) (x := xs i) (j := q.1) (by rw [hl, p1]) hz p3
      have d2 := dot_meet (v := q.2) (x := xs i) (j := q.1) (by rw [k2, p1]) k4 p3
      have d3 := p2 i q hq
      rw [if_pos rfl] at d3
      have hd := h1 i q hq
      have ew : whole st = pz q.1 q.2 * (xs i).getD q.1 0 := d3.symm.trans d2
      have hxn : (xs i).getD q.1 0 ≠ 0 := fun z => by
        rw [z, Int.mul_zero] at ew
        omega
      have hdv : pz q.1 q.2 ∣ v.getD q.1 0 := by
        rw [d1, ew] at hd
        exact Int.dvd_of_mul_dvd_mul_right hxn hd
      obtain ⟨k, hk⟩ := hdv
      have lq : v.length = q.2.length := by rw [hl, k2]
      have mq : q.2 ∈ st.map (·.2) := List.mem_map.mpr ⟨q, List.mem_of_getElem? hq, rfl⟩
      have ih := lat_all h xs ys hx hy m (q.1 + 1) (subR v q.2 k) (by omega) (by rw [subR_len lq, hl]) (fun i' hi' => ?_) (fun t q' ht => ?_) (fun g hg hn => ?_)
      · have e2 : subR (subR v q.2 k) q.2 (-k) = v := by rw [subR_add, Int.add_right_neg, subR_zero lq]
        rw [← e2]
        exact .more _ ih mq
      · rw [subR_get lq]
        by_cases ci : i' = q.1
        · rw [ci, hk]
          show pz q.1 q.2 * k - k * pz q.1 q.2 = 0
          rw [Int.mul_comm]
          omega
        · have h3 := hz i' (by omega)
          have h4 := k4 i' (by omega)
          have h4 : q.2.getD i' 0 = 0 := h4
          rw [h3, h4]
          omega
      · rw [dot_sub lq]
        refine Int.dvd_sub (h1 t q' ht) (Int.dvd_mul_of_dvd_right ?_)
        rw [(hx t q' ht).dot i q hq]
        split
        · exact Int.dvd_refl _
        · exact Int.dvd_zero _
      · rw [dot_sub lq, h2 g hg hn, (hy g hg hn).dot q (List.mem_of_getElem? hq)]
        omega
    · have hn : ∀ q ∈ st, q.1 ≠ j := fun q hq z => by
        obtain ⟨i, hi⟩ := List.mem_iff_getElem?.mp hq
        exact c ⟨i, q, hi, z⟩
      obtain ⟨p1, p2, p3, p4⟩ := hy j hjn hn
      have d1 := dot_meet (v := v) (x := ys j) (j := j) (by rw [hl, p1]) hz p4
      have d2 := h2 j hjn hn
      rw [d1, p3] at d2
      have vj : v.getD j 0 = 0 := by
        rcases Int.mul_eq_zero.mp d2 with z | z
        · exact z
        · omega
      refine lat_all h xs ys hx hy m (j + 1) v (by omega) hl (fun i hi => ?_) h1 h2
      by_cases ci : i = j
      · rw [ci]; exact vj
      · exact hz i (by omega)
theorem lat_bill {n : Nat} {st : List (Nat × List Int)} {b : List Int} (h : Ech n st) (hb : b.length = n) (xs ys : Nat → List Int) (hx : ∀ i q, st[i]? = some q → PartRow n st i q (xs i)) (hy : ∀ g, g < n → (∀ q ∈ st, q.1 ≠ g) → BesideRow n st g (ys g))
    (h1 : ∀ i q, st[i]? = some q → whole st ∣ dotI b (xs i)) (h2 : ∀ g, g < n → (∀ q ∈ st, q.1 ≠ g) → dotI b (ys g) = 0) : Lat n (st.map (·.2)) b :=
  lat_all h xs ys hx hy n 0 b (by omega) hb (fun i hi => by omega) h1 h2
theorem part_ok {n i : Nat} {st : List (Nat × List Int)} {q : Nat × List Int} {ss x : List Int} (h : Ech n st) (hq : st[i]? = some q) (hl : ss.length = st.length) (hs : ∀ (t : Nat) (s : Int), ss[t]? = some s → s = if t = i then whole st else 0) (hx : x = List.replicate n 0) : PartRow n st i q (comeTo st ss x) := by
  have hxl : x.length = n := by rw [hx, List.length_replicate]
  have hx0 : ∀ j, x.getD j 0 = 0 := fun j => by
    rw [hx, List.getD_eq_getElem?_getD, List.getElem?_replicate]
    split <;> rfl
  have ok := come_ok (d := 1) h hl hxl (fun q' _ => hx0 _) (fun s m => by
    obtain ⟨t, ht⟩ := List.mem_iff_getElem?.mp m
    rw [hs t s ht, Int.mul_one]
    split
    · exact Int.dvd_refl _
    · exact Int.dvd_zero _) (fun s m => by
    rw [hx] at m
    rw [List.eq_of_mem_replicate m]
    exact Int.dvd_zero _)
  refine ⟨by rw [come_len, hxl], fun t q' ht => ?_, come_zero h hl hxl (fun j _ => hx0 j) fun t q' s h1 h2 h3 => ?_⟩
  · have hlt : t < ss.length := by
      rw [hl]
      exact (List.getElem?_eq_some_iff.mp ht).1
    have e := List.getElem?_eq_getElem hlt
    rw [ok.2 t q' _ ht e]
    exact hs t _ e
  · rw [hs t s h2, if_neg]
    intro z
    rw [z, hq] at h1
    cases h1
    omega
theorem beside_ok {n g : Nat} {st : List (Nat × List Int)} {ss x : List Int} (h : Ech n st) (hg : g < n) (hn : ∀ q ∈ st, q.1 ≠ g) (hl : ss.length = st.length) (hs : ∀ s ∈ ss, s = 0) (hx : x.length = n) (hx1 : ∀ (j : Nat) (s : Int), x[j]? = some s → s = if j = g then whole st else 0) : BesideRow n st g (comeTo st ss x) := by
  have hx0 : ∀ j, j ≠ g → x.getD j 0 = 0 := fun j hj => by
    rw [List.getD_eq_getElem?_getD]
    cases e : x[j]? with
    | none => rfl
    | some s =>
      have := hx1 j s e
      rw [if_neg hj] at this
      rw [this]
      rfl
  have ok := come_ok (d := 1) h hl hx (fun q' hq => hx0 _ (hn q' hq)) (fun s m => by rw [hs s m]; exact Int.dvd_zero _) (fun s m => by
    obtain ⟨j, hj⟩ := List.mem_iff_getElem?.mp m
    rw [hx1 j s hj, Int.mul_one]
    split
    · exact Int.dvd_refl _
    · exact Int.dvd_zero _)
  refine ⟨by rw [come_len, hx], fun q hq => ?_, ?_, come_zero h hl hx (fun j hj => hx0 j (by omega)) fun t q' s _ h2 _ => hs s (List.mem_of_getElem? h2)⟩
  · obtain ⟨t, ht⟩ := List.mem_iff_getElem?.mp hq
    have hlt : t < ss.length := by
      rw [hl]
      exact (List.getElem?_eq_some_iff.mp ht).1
    have e := List.getElem?_eq_getElem hlt
    rw [ok.2 t q _ ht e]
    exact hs _ (List.mem_of_getElem? e)
  · rw [come_keep (fun q hq => by rw [hx]; exact (h.ok q hq).1) hn, List.getD_eq_getElem?_getD, List.getElem?_eq_getElem (by omega)]
    exact (hx1 g _ (List.getElem?_eq_getElem (by omega))).trans (if_pos rfl)
/-! ### how great the rows are -/
theorem fdiv_le {a b : Int} {S : Int} (hb : b ≠ 0) (h1 : -S ≤ a) (h2 : a ≤ S) : -(S + 1) ≤ a.fdiv b ∧ a.fdiv b ≤ S + 1 := quot_any hb h1 h2
theorem dot_ent {M Y : Int} (m0 : 0 ≤ M) (y0 : 0 ≤ Y) : ∀ {h y : List Int}, Ent M h → Ent Y y → -((h.length : Nat) * (M * Y)) ≤ dotI h y ∧ dotI h y ≤ (h.length : Nat) * (M * Y)
  | [], y, _, _ => by rw [dotI_nil]; simp
  | a :: h, [], _, _ => by
    rw [dotI_nil2]
    have := Int.mul_nonneg (show (0 : Int) ≤ ((a :: h).length : Nat) by omega) (Int.mul_nonneg m0 y0)
    omega
  | a :: h, b :: y, h1, h2 => by
    have ih := dot_ent m0 y0 (h := h) (y := y) (fun x hx => h1 x (List.mem_cons_of_mem _ hx)) (fun x hx => h2 x (List.mem_cons_of_mem _ hx))
    have ha := h1 a List.mem_cons_self
    have hb := h2 b List.mem_cons_self
    have e : ((a :: h).length : Int) * (M * Y) = (h.length : Nat) * (M * Y) + M * Y := by
      rw [List.length_cons, Int.natCast_add, Int.add_mul]
      omega
    have k := sub_ent (r := [0]) (l := [b]) (q := a) (M := 0) (B := Y) (t := M) m0 ha.1 ha.2 y0 (fun x hx => by rw [List.mem_singleton.mp hx]; decide) (fun x hx => by rw [List.mem_singleton.mp hx]; exact hb) (0 - a * b) (by show _ ∈ [(0 : Int) - a * b]; exact List.mem_cons_self)
    rw [dotI_cons]
    generalize ((a :: h).length : Int) * (M * Y) = z at *
    omega
theorem come_ent {n : Nat} {M W : Int} (m0 : 0 ≤ M) (w1 : 1 ≤ W) : ∀ {st : List (Nat × List Int)} {ss x : List Int}, Ech n st → (∀ q ∈ st, Ent M q.2) → ss.length = st.length → Ent W ss → Ent W x → Ent (W * (3 + (n : Nat) * M) ^ st.length) (comeTo st ss x)
  | [], ss, x, _, _, _, _, hx => fun y hy => by
    have := hx y hy
    show -(W * (3 + (n : Nat) * M) ^ 0) ≤ y ∧ y ≤ W * (3 + (n : Nat) * M) ^ 0
    rw [Int.pow_zero, Int.mul_one]
    exact this
  | q :: st, [], x, _, _, hl, _, _ => by simp at hl
  | q :: st, s0 :: ss, x, h, hM, hl, hs, hx => by
    have ih := come_ent m0 w1 (st := st) (ss := ss) (x := x) h.tail (fun q' hq => hM q' (List.mem_cons_of_mem _ hq)) (by simpa using hl) (fun y hy => hs y (List.mem_cons_of_mem _ hy)) hx
    obtain ⟨k1, k2, k3, k4⟩ := h.ok q List.mem_cons_self
    have nm : 0 ≤ (n : Int) * M := Int.mul_nonneg (by omega) m0
    have tp : ∀ k : Nat, 1 ≤ (3 + (n : Int) * M) ^ k := fun k => by
      induction k with
      | zero => rw [Int.pow_zero]; decide
      | succ k ih => rw [Int.pow_succ]; exact pos_mul ih (by omega)
    have t1 := tp st.length
    have e : W * (3 + (n : Int) * M) ^ (q :: st).length = W * (3 + (n : Int) * M) ^ st.length * 3 + (n : Nat) * (M * (W * (3 + (n : Int) * M) ^ st.length)) := by
      rw [List.length_cons, Int.pow_succ]
      grind
    rw [e]
    generalize (3 + (n : Int) * M) ^ st.length = T at *
    have wt : W ≤ W * T := le_mul_r (by omega) t1
    have y0 : 0 ≤ W * T := by omega
    have hd := dot_ent m0 y0 (hM q List.mem_cons_self) ih
    rw [k2] at hd
    have hs0 := hs s0 List.mem_cons_self
    have hf := fdiv_le (a := s0 - dotI q.2 (comeTo st ss x)) (b := pz q.1 q.2) (S := W + (n : Nat) * (M * (W * T))) k3 (by omega) (by omega)
    have z0 : 0 ≤ (n : Int) * (M * (W * T)) := Int.mul_nonneg (by omega) (Int.mul_nonneg m0 y0)
    intro y hy
    rcases List.mem_or_eq_of_mem_set (show y ∈ (comeTo st ss x).set q.1 ((s0 - dotI q.2 (comeTo st ss x)).fdiv (pz q.1 q.2)) from hy) with z | z
    · have := ih y z
      omega
    · rw [z]
      omega
theorem whole_ent {M : Int} (m1 : 1 ≤ M) : ∀ {st : List (Nat × List Int)}, (∀ q ∈ st, Ent M q.2) → 0 ≤ whole st ∧ whole st ≤ M ^ st.length
  | [], _ => ⟨by decide, by show whole [] ≤ M ^ 0; rw [Int.pow_zero]; decide⟩
  | q :: st, h => by
    obtain ⟨i1, i2⟩ := whole_ent m1 (st := st) fun q' hq => h q' (List.mem_cons_of_mem _ hq)
    have hq := (h q List.mem_cons_self).at (by omega) q.1
    have a0 : 0 ≤ absI (pz q.1 q.2) ∧ absI (pz q.1 q.2) ≤ M := by
      rcases absI_eq (pz q.1 q.2) with ⟨a, b⟩ | ⟨a, b⟩ <;> omega
    rw [whole_cons, List.length_cons, Int.pow_succ, Int.mul_comm (M ^ _)]
    exact ⟨Int.mul_nonneg a0.1 i1, Int.mul_le_mul a0.2 i2 i1 (by omega)⟩
/-! ### stairs of a lot -/
def bnd : Nat → Int
  | 0 => 8
  | c + 1 => big (bnd c)
theorem bnd_pos : ∀ c, 1 ≤ bnd c
  | 0 => by decide
  | c + 1 => Int.le_trans (bnd_pos c) (first_big (bnd_pos c)).2.2
theorem bnd_mono : ∀ {c d : Nat}, c ≤ d → bnd c ≤ bnd d
  | c, 0, h => by
    have : c = 0 := by omega
    rw [this]
    exact Int.le_refl _
  | c, d + 1, h => by
    by_cases e : c = d + 1
    · rw [e]
      exact Int.le_refl _
    · exact Int.le_trans (bnd_mono (show c ≤ d by omega)) (first_big (bnd_pos d)).2.2
structure SInv (n g : Nat) (lot : List (List Int)) (st : List (Nat × List Int)) (rows : List (List Int)) : Prop where
  ech : Ech n st
  piv : ∀ q ∈ st, q.1 < g
  len : Len n rows
  zero : ∀ r ∈ rows, ∀ j, j < g → pz j r = 0
  same : SameLat n lot (st.map (·.2) ++ rows)
  few : st.length + rows.length = lot.length
  ent : ∃ c, (c = 0 ∨ c + 1 ≤ lot.length) ∧ c + rows.length ≤ lot.length ∧ ∀ r ∈ st.map (·.2) ++ rows, Ent (bnd c) r
theorem lenS {n : Nat} {st : List (Nat × List Int)} (h : Ech n st) : Len n (st.map (·.2)) := fun r hr => by
  obtain ⟨q, hq, rfl⟩ := List.mem_map.mp hr
  exact (h.ok q hq).2.1
theorem SInv.start {n : Nat} {lot : List (List Int)} (hL : Len n lot) (hE : ∀ r ∈ lot, Ent 8 r) : SInv n 0 lot [] lot :=
  ⟨⟨.nil, fun q hq => by cases hq⟩, fun q hq => (by cases hq), hL, fun r _ j hj => (by omega), by simpa using SameLat.refl hL, by simp, 0, .inl rfl, by omega, fun r hr => hE r (by simpa using hr)⟩
theorem SInv.step {n g c : Nat} {lot rows at_ oth : List (List Int)} {st : List (Nat × List Int)} (hL : Len n lot) (hg : g < n) (h : SInv n g lot st rows) (hc0 : c = 0 ∨ c + 1 ≤ lot.length) (hc : c + rows.length ≤ lot.length) (hE : ∀ r ∈ st.map (·.2) ++ rows, Ent (bnd c) r) (O : OneAt n g (bnd c) rows at_ oth) : SInv n (g + 1) lot (st ++ at_.map fun r => (g, r)) oth := by
  have zA : ∀ r ∈ at_ ++ oth, ∀ j, j < g → pz j r = 0 := fun r hr j hj => (O.same.2 r hr).at0 h.len fun r' hr' => h.zero r' hr' j hj
  have ech : Ech n (st ++ at_.map fun r => (g, r)) := by
    refine ⟨?_, fun q hq => ?_⟩
    · refine List.pairwise_append.mpr ⟨h.ech.rise, ?_, fun a ha b hb => ?_⟩
      · have := O.one
        match at_, this with
        | [], _ => exact .nil
        | [x], _ => exact List.pairwise_singleton _ _
      · obtain ⟨r, _, rfl⟩ := List.mem_map.mp hb
        exact h.piv a ha
    · rcases List.mem_append.mp hq with z | z
      · exact h.ech.ok q z
      · obtain ⟨r, hr, rfl⟩ := List.mem_map.mp z
        exact ⟨hg, O.lenA r hr, O.nz r hr, fun j hj => zA r (List.mem_append_left _ hr) j hj⟩
  have em : (st ++ at_.map fun r => (g, r)).map (·.2) = st.map (·.2) ++ at_ := by
    rw [List.map_append, List.map_map]
    congr 1
    exact List.map_id'' (fun _ => rfl) _
  have hLS : Len n (st.map (·.2) ++ at_ ++ oth) := fun r hr => by
    rcases List.mem_append.mp hr with z | z
    · rcases List.mem_append.mp z with z | z
      · exact lenS h.ech r z
      · exact O.lenA r z
    · exact O.lenO r z
  have hLR : Len n (st.map (·.2) ++ rows) := fun r hr => (List.mem_append.mp hr).elim (lenS h.ech r) (h.len r)
  refine ⟨ech, fun q hq => ?_, O.lenO, fun r hr j hj => ?_, ?_, ?_, ?_⟩
  · rcases List.mem_append.mp hq with z | z
    · have := h.piv q z
      omega
    · obtain ⟨r, _, rfl⟩ := List.mem_map.mp z
      exact Nat.lt_succ_self g
  · by_cases e : j = g
    · rw [e]
      exact O.zero r hr
    · exact zA r (List.mem_append_right _ hr) j (by omega)
  · rw [em]
    refine h.same.trans hL hLS ⟨fun r hr => ?_, fun r hr => ?_⟩
    · rcases List.mem_append.mp hr with z | z
      · exact .one hLS (List.mem_append_left _ (List.mem_append_left _ z))
      · refine Lat.mono hLS (fun r' hr' => .one hLS ?_) (O.same.1 r z)
        rcases List.mem_append.mp hr' with z | z
        · exact List.mem_append_left _ (List.mem_append_right _ z)
        · exact List.mem_append_right _ z
    · have key : ∀ r ∈ at_ ++ oth, Lat n (st.map (·.2) ++ rows) r := fun r hr => Lat.mono hLR (fun r' hr' => .one hLR (List.mem_append_right _ hr')) (O.same.2 r hr)
      rcases List.mem_append.mp hr with z | z
      · rcases List.mem_append.mp z with z | z
        · exact .one hLR (List.mem_append_left _ z)
        · exact key r (List.mem_append_left _ z)
      · exact key r (List.mem_append_right _ z)
  · have := h.few
    have := O.count
    rw [List.length_append, List.length_map]
    omega
  · rw [em]
    rcases O.ent with z | ⟨z1, z2, z3⟩
    · refine ⟨c, hc0, by have := O.count; omega, fun r hr => ?_⟩
      rcases List.mem_append.mp hr with y | y
      · rcases List.mem_append.mp y with y | y
        · exact hE r (List.mem_append_left _ y)
        · exact z r (List.mem_append_left _ y)
      · exact z r (List.mem_append_right _ y)
    · refine ⟨c + 1, .inr (by omega), by have := O.count; omega, fun r hr => ?_⟩
      rcases List.mem_append.mp hr with y | y
      · rcases List.mem_append.mp y with y | y
        · exact (hE r (List.mem_append_left _ y)).mono (bnd_mono (Nat.le_succ c))
        · exact z3 r (List.mem_append_left _ y)
      · exact z3 r (List.mem_append_right _ y)
theorem bnd_bits : bnd 4 ≤ (2 : Int) ^ 4700 := by decide +kernel
theorem SInv.done {n : Nat} {lot rows : List (List Int)} {st : List (Nat × List Int)} (h : SInv n n lot st rows) (hL : Len n lot) (h5 : lot.length ≤ 5) : SameLat n lot (st.map (·.2)) ∧ (∀ q ∈ st, Ent (bnd 4) q.2) ∧ st.length ≤ 5 := by
  have z0 : ∀ r ∈ rows, r = List.replicate n 0 := fun r hr => by
    have := all_zero (v := r) fun i => by
      by_cases c : i < n
      · exact h.zero r hr i c
      · rw [List.getD_eq_getElem?_getD, List.getElem?_eq_none (by rw [h.len r hr]; omega)]
        rfl
    rw [h.len r hr] at this
    exact this
  refine ⟨h.same.trans hL (lenS h.ech) ⟨fun r hr => ?_, fun r hr => ?_⟩, fun q hq => ?_, by have := h.few; omega⟩
  · rcases List.mem_append.mp hr with z | z
    · exact .one (lenS h.ech) z
    · rw [z0 r z]
      exact .nil
  · exact .one (fun r hr => (List.mem_append.mp hr).elim (lenS h.ech r) (h.len r)) (List.mem_append_left _ hr)
  · obtain ⟨c, hc0, _, hE⟩ := h.ent
    exact (hE q.2 (List.mem_append_left _ (List.mem_map.mpr ⟨q, hq, rfl⟩))).mono (bnd_mono (by omega))
end HL

namespace HL
open PySem PySem.Spec PyProof.Rows L2
open C8 (pss_cut)
/-! ### the text -/
def topS (i : Nat) : Stmt := PySem.Challenge.pw_hamperlot_k62_whole_bills_many_times_ove.main.body.getD i (.Pass ⟨0, 0, 0, 0⟩)
abbrev sIsHold : Stmt := topS 10
abbrev sLook : Stmt := topS 11
abbrev sGoods : Stmt := topS 12
abbrev sFirst : Stmt := topS 13
abbrev sLookBill : Stmt := topS 14
abbrev sUnit : Stmt := topS 16
abbrev sOpp : Stmt := topS 17
abbrev sLess : Stmt := topS 18
abbrev sWeigh : Stmt := topS 19
abbrev sBox : Stmt := topS 22
abbrev sBoth : Stmt := topS 23
abbrev sCells : Stmt := topS 24
abbrev sOneMore : Stmt := topS 25
abbrev sTables : Stmt := topS 26
abbrev sHowMany : Stmt := topS 27
abbrev sOneAt : Stmt := topS 29
abbrev sArePr : Stmt := topS 31
abbrev sPrHold : Stmt := topS 32
abbrev sUpright : Stmt := topS 33
abbrev sPrRows : Stmt := topS 34
abbrev sPrices : Stmt := topS 35
abbrev sReHold : Stmt := topS 36
abbrev sStairs : Stmt := topS 37
abbrev sComing : Stmt := topS 38
abbrev sWhole : Stmt := topS 39
abbrev sLeastNone : Stmt := topS 40
abbrev sByParts : Stmt := topS 41
abbrev sReBeside : Stmt := topS 42
abbrev sRests : Stmt := topS 43
abbrev sFeed : Stmt := topS 45
abbrev sDraw : Stmt := topS 46
abbrev sPick : Stmt := topS 47
abbrev sGreat : Stmt := topS 48
abbrev sHold : Stmt := topS 49
abbrev sLot : Stmt := topS 50
abbrev sTimes : Stmt := topS 51
abbrev sLaw : Stmt := topS 52
/-! ### heaps -/
/-- all that stood but at f stands -/
def Kp (f : Addr) (H H' : Hp) : Prop := ∀ b o, b ≠ f → H b = some o → H' b = some o
theorem Kp.refl (f : Addr) (H : Hp) : Kp f H H := fun _ _ _ h => h
theorem Kp.trans {f : Addr} {H H1 H2 : Hp} (a : Kp f H H1) (b : Kp f H1 H2) : Kp f H H2 := fun c o n h => b c o n (a c o n h)
theorem Same.kp {f : Addr} {H H' : Hp} (a : Same H H') : Kp f H H' := fun b o _ h => a b o h
theorem Kp.put {f : Addr} {H : Hp} {o : HO} : Kp f H (upd H f o) := fun b _ n h => by
  rw [upd_ne n]
  exact h
theorem same_new {H : Hp} {p : Addr} {o : HO} (h : H p = none) : Same H (upd H p o) := fun b x e => by
  rw [upd_ne (ne_of_none e h)]
  exact e
theorem Kp.new {f : Addr} {H : Hp} {p : Addr} {o : HO} (h : H p = none) : Kp f H (upd H p o) := Same.kp (same_new h)
/-- the feed at f -/
def FeedAt (c : Addr) (H : Hp) (f : Addr) : Prop := ∃ (ns : List Int) (i b m n : Int),
  H f = some (.lst [.ref c, .int i, .int b, .int m, .int n]) ∧ H c = some (.lst (ns.map V.int)) ∧ 0 ≤ i ∧ 0 ≤ b ∧ 0 ≤ m ∧ m < 2147483647
theorem FeedAt.same {c : Addr} {H H' : Hp} {f : Addr} (F : FeedAt c H f) (s : Same H H') : FeedAt c H' f := by
  obtain ⟨ns, i, b, m, n, h1, h2, h3⟩ := F
  exact ⟨ns, i, b, m, n, s _ _ h1, s _ _ h2, h3⟩
theorem FeedAt.new {c : Addr} {H : Hp} {f p : Addr} {o : HO} (F : FeedAt c H f) (h : H p = none) : FeedAt c (upd H p o) f := F.same (same_new h)
theorem FeedAt.ne {c : Addr} {H : Hp} {f p : Addr} (F : FeedAt c H f) (h : H p = none) : p ≠ f := by
  obtain ⟨ns, i, b, m, n, h1, _⟩ := F
  exact fun e => by
    rw [e, h1] at h
    cases h
theorem FeedAt.neC {c : Addr} {H : Hp} {f p : Addr} (F : FeedAt c H f) (h : H p = none) : p ≠ c := by
  obtain ⟨ns, i, b, m, n, _, h1, _⟩ := F
  exact fun e => by
    rw [e, h1] at h
    cases h
theorem FeedAt.tup {c : Addr} {H : Hp} {f p : Addr} {xs : List V} (F : FeedAt c H f) (h : H p = some (.tup xs)) : p ≠ f := by
  obtain ⟨ns, i, b, m, n, h1, _⟩ := F
  exact ne_of h h1 (fun e => by cases e)
/-- another thing than the feed is written -/
theorem FeedAt.put {c : Addr} {H : Hp} {f D : Addr} {o : HO} (F : FeedAt c H f) (n1 : D ≠ f) (n2 : D ≠ c) : FeedAt c (upd H D o) f := by
  obtain ⟨ns, i, b, m, n, h1, h2, h3⟩ := F
  exact ⟨ns, i, b, m, n, by rw [upd_ne (Ne.symm n1)]; exact h1, by rw [upd_ne (Ne.symm n2)]; exact h2, h3⟩
/-- where nothing stood behind, nothing stood ahead -/
theorem Kp.free {f : Addr} {H H' : Hp} {p : Addr} (k : Kp f H H') (n : p ≠ f) (h : H' p = none) : H p = none := by
  cases e : H p with
  | none => rfl
  | some o =>
    rw [k _ _ n e] at h
    cases h
/-- what is new since H may be written -/
theorem Kp.late {f : Addr} {H H' : Hp} {D : Addr} {o : HO} (k : Kp f H H') (nD : H D = none) : Kp f H (upd H' D o) := fun b x n e => by
  rw [upd_ne (ne_of_none e nD)]
  exact k _ _ n e
theorem same_late {H H' : Hp} {D : Addr} {o : HO} (k : Same H H') (nD : H D = none) : Same H (upd H' D o) := fun b x e => by
  rw [upd_ne (ne_of_none e nD)]
  exact k _ _ e
theorem ref_ne {c : Addr} {ns : List Int} {r : List V} : (V.ref c :: r) ≠ ns.map V.int := by
  cases ns with
  | nil => exact fun e => by cases e
  | cons x xs => exact fun e => by simp at e
/-! ### the feed -/
theorem scFeed : FnScope ["_law_script"] ["_law_script"] (defScope sFeed) := ⟨rfl, rfl, rfl, by decide +kernel, rfl, by decide +kernel, by decide +kernel⟩
theorem scDraw : FnScope ["_law_feed_here", "_law_many", "_law_cell", "_law_digit", "_law_mix"] ["_law_feed_here", "_law_many"] (defScope sDraw) := ⟨rfl, rfl, rfl, by decide +kernel, rfl, by decide +kernel, by decide +kernel⟩
section
variable {P : Program} {w : World} {K : PySem.W.Frag} {mg : Str → Option Value} {base : Heap}
def spFeed (K : PySem.W.Frag) : Sp := fun vs H Q _ => ∃ (a : Addr) (ns : List Int), vs = [.ref a] ∧ SqL K H a (ns.map V.int) ∧ ns.length ≤ 63 ∧
  ∀ H' f c, Same H H' → H f = none → FeedAt c H' f → Q (.ref f) H'
theorem cut_ints (ns : List Int) (lo hi : Option Int) : ∃ ms : List Int, cutV (ns.map V.int) lo hi = ms.map V.int := by
  refine ⟨(ns.drop (HT.sIx ns.length 0 lo)).take (HT.sIx ns.length ns.length hi - HT.sIx ns.length 0 lo), ?_⟩
  unfold cutV
  rw [List.length_map, List.map_take, List.map_drop]
theorem ok_feed {f : Addr} {fd : FuncData} {k : Nat} (F : Fun K "_law_feed" "_law_feed" sFeed f fd) (ml : mg "list" = none) : FnOk P w K mg base CX0 (k + 1) f fd ["_law_script"] (spFeed K) := by
  refine F.ok scFeed (fun vs H Q E h => ?_) (fun cdv A outer s H vs Q E hr h => ?_)
  · obtain ⟨a, ns, rfl, _⟩ := h
    rfl
  · obtain ⟨a, ns, rfl, hS, hlen, q⟩ := h
    refine ⟨_, pss_one (ps_ret (pe_lst (pa_cons (pe_callTy call_list_of (by rfl) ml (by decide +kernel) (pa_cons (pe_slice sl_list (pv 0) po_none (po_some pe_int)) pa_nil)) (pa_cons pe_int (pa_cons pe_int (pa_cons pe_int (pa_cons pe_int pa_nil))))))), ?_⟩
    obtain ⟨ms, hms⟩ := cut_ints ns none (some 63)
    refine ⟨.ref a, rfl, 63, rfl, a, ns.map V.int, rfl, hS, fun c nc => ?_⟩
    rw [hms]
    refine ⟨c, ms.map V.int, rfl, .inl (SqL.of upd_same), fun l nl => ?_⟩
    refine ⟨(by show 5 ≤ sizeLine; decide), fun g ng => ?_⟩
    refine q _ g l ?_ ?_ ⟨ms, 0, 0, 9132, 0, upd_same, ?_, by decide, by decide, by decide, by decide⟩
    · exact (same_new nc).trans ((same_new nl).trans (same_new ng))
    · exact (same_new nc).free ((same_new nl).free ng)
    · rw [upd_ne (fun e => by rw [← e, upd_same] at ng; cases ng), upd_same]

theorem atI_int {ns : List Int} {i : Int} (h0 : 0 ≤ i) (h1 : i < (ns.length : Nat)) : ∃ z, atI (ns.map V.int) i = some (.int z) := by
  have hl : i.toNat < ns.length := by omega
  refine ⟨ns[i.toNat], ?_⟩
  have e : ((i.toNat : Nat) : Int) = i := by omega
  refine (congrArg (atI (ns.map V.int)) e.symm).trans (atI_nat (j := i.toNat) ?_)
  rw [List.getElem?_map, List.getElem?_eq_getElem hl]
  rfl
def spDraw : Sp := fun vs H Q _ => ∃ (f c : Addr) (n : Int), vs = [.ref f, .int n] ∧ 1 ≤ n ∧ n ≤ 1000000000000000000000000000000 ∧ FeedAt c H f ∧
  ∀ d H', 0 ≤ d → d < n → Kp f H H' → FeedAt c H' f → Q (.int d) H'
theorem ok_draw {f : Addr} {fd : FuncData} {k : Nat} (F : Fun K "_law_draw" "_law_draw" sDraw f fd) (ml : mg "len" = none) : FnOk P w K mg base CX0 (k + 1) f fd ["_law_feed_here", "_law_many"] spDraw := by
  refine F.ok scDraw (fun vs H Q E h => ?_) (fun cdv A outer s H vs Q E hr h => ?_)
  · obtain ⟨a, c, n, rfl, _⟩ := h
    rfl
  · obtain ⟨a, c, n, rfl, n1, n2, ⟨ns, i, b, m, t, h1, h2, i0, b0, m0, m1⟩, q⟩ := h
    refine ⟨_, pss_cut (ps_if (PW.pt (pw_and (pt_cmpR op_lt (pe_ix ix_list (pv 0) pe_int (fun _ _ => rfl)) (pv 1) (nomark _))
          (pw_and1 (pt_cmpR op_lt (pe_ix ix_list (pv 0) pe_int (fun _ _ => rfl)) (pe_callB call_len_seq (by rfl) ml PySem.boot_len (pa_cons (pe_ix ix_list (pv 0) pe_int (fun _ _ => rfl)) pa_nil)) (nomark _)))))
        (pss_cons (ps_set (i := 2) scDraw.nd rfl (.inl rfl) (pe_ix ix_list (pe_ix ix_list (pv 0) pe_int (fun _ _ => rfl)) (pe_ix ix_list (pv 0) pe_int (fun _ _ => rfl)) (fun _ _ => rfl)))
        (pss_cons (ps_asg (pe_op op_add (pe_ix ix_list (pv 0) pe_int (fun _ _ => rfl)) pe_int) (pg_sub (pv 0) pe_int set_list))
        (pss_cons (ps_asg pe_int (pg_sub (pv 0) pe_int set_list))
        (pss_one (ps_if (pt_cmpR op_ge (pv 2) (pe_op op_pow pe_int pe_int) (nomark _))
          (pss_one (ps_asg (pv 2) (pg_sub (pv 0) pe_int set_list)))
          (pss_one (ps_asg (pe_op op_mod (pe_op op_add (pe_op op_add (pe_op op_mul (pe_ix ix_list (pv 0) pe_int (fun _ _ => rfl)) pe_int) (pe_op op_mul (pe_op op_mod (pv 2) pe_int) pe_int)) pe_int) pe_int) (pg_sub (pv 0) pe_int set_list))))))))
        pss_nil)
      (pss_cons (ps_if (pt_cmpR op_ge (pe_ix ix_list (pv 0) pe_int (fun _ _ => rfl)) (pv 1) (nomark _))
        (pss_cons (ps_set (i := 3) scDraw.nd rfl (.inl rfl) (pe_op op_mod (pe_ix ix_list (pv 0) pe_int (fun _ _ => rfl)) (pv 1)))
        (pss_cons (ps_asg (pe_op op_fdivW (pe_ix ix_list (pv 0) pe_int (fun _ _ => rfl)) (pv 1)) (pg_sub (pv 0) pe_int set_list))
        (pss_one (ps_ret (pv 3))))) pss_nil)
      (pss_cons (ps_asg (pe_op op_add (pe_ix ix_list (pv 0) pe_int (fun _ _ => rfl)) pe_int) (pg_sub (pv 0) pe_int set_list))
      (pss_cons (ps_set (i := 4) scDraw.nd rfl (.inl rfl) (pe_ix ix_list (pv 0) pe_int (fun _ _ => rfl)))
      (pss_cons (ps_set (i := 4) scDraw.nd rfl (.inl rfl) (pe_op op_add (pe_op op_add (pe_op op_add (pe_op op_mul (pe_op op_mod (pe_op op_mul (pv 4) (pv 4)) pe_int) pe_int) (pe_op op_mul (pv 4) pe_int)) (pe_op op_mul pe_int (pe_ix ix_list (pv 0) pe_int (fun _ _ => rfl)))) pe_int))
      (pss_cons (ps_asg (pe_op op_mod (pv 4) pe_int) (pg_sub (pv 0) pe_int set_list))
      (pss_one (ps_ret (pe_op op_mod (pe_op op_add (pe_op op_fdiv (pe_ix ix_list (pv 0) pe_int (fun _ _ => rfl)) pe_int) (pe_op op_mul (pe_op op_mod (pe_ix ix_list (pv 0) pe_int (fun _ _ => rfl)) pe_int) pe_int)) (pv 1))))))))), ?_⟩
    have hca : c ≠ a := fun e => by
      rw [e, h1] at h2
      exact ref_ne (HO.lst.inj (Option.some.inj h2))
    refine ⟨fun σ' H' => ∃ (y2 : Option V) (i b m t : Int), σ' = [some (.ref a), some (.int n), y2, none, none] ∧ Kp a H H' ∧ H' a = some (.lst [.ref c, .int i, .int b, .int m, .int t]) ∧ 0 ≤ i ∧ 0 ≤ b ∧ 0 ≤ m ∧ m < 2147483647, ?_, ?_⟩
    · refine ⟨.ref a, rfl, a, _, 2, .int b, rfl, rfl, SqL.of h1, atI_nat (j := 2) rfl, .int n, rfl, b, n, rfl, rfl, _, rfl, ite2 (fun c1 => ?_) (fun c1 => ?_)⟩
      · refine ⟨.ref a, rfl, a, _, 1, .int i, rfl, rfl, SqL.of h1, atI_nat (j := 1) rfl, .ref a, rfl, a, _, 0, .ref c, rfl, rfl, SqL.of h1, atI_nat (j := 0) rfl, c, _, rfl, .inl (SqL.of h2), i, _, rfl, rfl, _, rfl, ite2 (fun c2 => ?_) (fun c2 => ?_)⟩
        · have hi : i < (ns.length : Nat) := by
            have := of_decide_eq_true c2
            rw [List.length_map] at this
            exact this
          obtain ⟨z, hz⟩ := atI_int i0 hi
          refine ⟨.ref a, rfl, a, _, 0, .ref c, rfl, rfl, SqL.of h1, atI_nat (j := 0) rfl, .ref a, rfl, a, _, 1, .int i, rfl, rfl, SqL.of h1, atI_nat (j := 1) rfl, c, _, i, .int z, rfl, rfl, SqL.of h2, hz, ?_⟩
          refine ⟨.ref a, rfl, a, _, 1, .int i, rfl, rfl, SqL.of h1, atI_nat (j := 1) rfl, i, 1, rfl, rfl, .ref a, rfl, a, _, 1, 1, rfl, rfl, h1, rfl, ?_⟩
          refine ⟨.ref a, rfl, a, _, 2, 2, rfl, rfl, upd_same, rfl, ?_⟩
          refine ⟨.int z, rfl, 10, 18, rfl, rfl, ⟨by decide, by decide, by decide⟩, z, _, rfl, rfl, _, rfl, ite2 (fun c3 => ?_) (fun c3 => ?_)⟩
          · have z0 : (10 : Int) ^ (18 : Int).toNat ≤ z := of_decide_eq_true c3
            have z1 : (0 : Int) ≤ z := Int.le_trans (by decide) z0
            refine ⟨.int z, rfl, .ref a, rfl, a, _, 2, 2, rfl, rfl, upd_same, rfl, ?_⟩
            exact ⟨_, i + 1, z, m, t, rfl, Kp.put.trans (Kp.put.trans Kp.put), upd_same, by omega, z1, m0, m1⟩
          · refine ⟨.ref a, rfl, a, _, 3, .int m, rfl, rfl, SqL.of upd_same, atI_nat (j := 3) rfl, m, 48271, rfl, rfl, .inr ⟨by decide, by decide⟩, .int z, rfl, z, 1000000007, rfl, rfl, (by show (0 : Int) < 1000000007; decide), _, 69621, rfl, rfl, .inr ⟨by decide, by decide⟩, _, _, rfl, rfl, _, 11, rfl, rfl, _, 2147483647, rfl, rfl, (by show (0 : Int) < 2147483647; decide), .ref a, rfl, a, _, 3, 3, rfl, rfl, upd_same, rfl, ?_⟩
            exact ⟨_, i + 1, 0, _, t, rfl, Kp.put.trans (Kp.put.trans Kp.put), upd_same, by omega, by decide, Int.emod_nonneg _ (by decide), Int.emod_lt_of_pos _ (by decide)⟩
        · exact ⟨none, i, b, m, t, rfl, Kp.refl _ _, h1, i0, b0, m0, m1⟩
      · exact ⟨none, i, b, m, t, rfl, Kp.refl _ _, h1, i0, b0, m0, m1⟩
    · rintro σ' H' ⟨y2, i, b, m, t, rfl, kp, g1, i0, b0, m0, m1⟩
      have g2 : H' c = some (.lst (ns.map V.int)) := kp _ _ hca h2
      refine ⟨.ref a, rfl, a, _, 2, .int b, rfl, rfl, SqL.of g1, atI_nat (j := 2) rfl, .int n, rfl, b, n, rfl, rfl, _, rfl, ite2 (fun c1 => ?_) (fun c1 => ?_)⟩
      · refine ⟨.ref a, rfl, a, _, 2, .int b, rfl, rfl, SqL.of g1, atI_nat (j := 2) rfl, .int n, rfl, b, n, rfl, rfl, (by show (0 : Int) < n; omega), ?_⟩
        refine ⟨.ref a, rfl, a, _, 2, .int b, rfl, rfl, SqL.of g1, atI_nat (j := 2) rfl, .int n, rfl, b, n, rfl, rfl, wide_div (b := 100) (by omega) (by omega) (by decide) (by decide), .ref a, rfl, a, _, 2, 2, rfl, rfl, g1, rfl, ?_⟩
        refine ⟨_, rfl, q _ _ (Int.emod_nonneg _ (by omega)) (Int.emod_lt_of_pos _ (by omega)) (kp.trans Kp.put) ⟨ns, i, _, m, t, upd_same, ?_, i0, Int.ediv_nonneg b0 (by omega), m0, m1⟩⟩
        rw [upd_ne hca]
        exact g2
      · refine ⟨.ref a, rfl, a, _, 4, .int t, rfl, rfl, SqL.of g1, atI_nat (j := 4) rfl, t, 1, rfl, rfl, .ref a, rfl, a, _, 4, 4, rfl, rfl, g1, rfl, ?_⟩
        refine ⟨.ref a, rfl, a, _, 3, .int m, rfl, rfl, SqL.of upd_same, atI_nat (j := 3) rfl, ?_⟩
        refine ⟨.int m, rfl, .int m, rfl, m, m, rfl, rfl, .inl ⟨by omega, by omega⟩, _, 2147483587, rfl, rfl, (by show (0 : Int) < 2147483587; decide), _, 16807, rfl, rfl, .inr ⟨by decide, by decide⟩, .int m, rfl, m, 48271, rfl, rfl, .inr ⟨by decide, by decide⟩, _, _, rfl, rfl, .ref a, rfl, a, _, 4, .int (t + 1), rfl, rfl, SqL.of upd_same, atI_nat (j := 4) rfl, 97, t + 1, rfl, rfl, .inl ⟨by decide, by decide⟩, _, _, rfl, rfl, _, 12345, rfl, rfl, ?_⟩
        refine ⟨_, rfl, _, 2147483647, rfl, rfl, (by show (0 : Int) < 2147483647; decide), .ref a, rfl, a, _, 3, 3, rfl, rfl, upd_same, rfl, ?_⟩
        refine ⟨.ref a, rfl, a, _, 3, _, rfl, rfl, SqL.of upd_same, atI_nat (j := 3) rfl, _, 64, rfl, rfl, ⟨by decide, by decide⟩, .ref a, rfl, a, _, 3, _, rfl, rfl, SqL.of upd_same, atI_nat (j := 3) rfl, _, 4093, rfl, rfl, (by show (0 : Int) < 4093; decide), _, 31, rfl, rfl, .inr ⟨by decide, by decide⟩, _, _, rfl, rfl, .int n, rfl, _, n, rfl, rfl, (by show (0 : Int) < n; omega), ?_⟩
        refine q _ _ (Int.emod_nonneg _ (by omega)) (Int.emod_lt_of_pos _ (by omega)) (kp.trans (Kp.put.trans Kp.put)) ⟨ns, i, b, _, t + 1, upd_same, ?_, i0, b0, Int.emod_nonneg _ (by decide), Int.emod_lt_of_pos _ (by decide)⟩
        rw [upd_ne hca, upd_ne hca]
        exact g2
end
end HL

namespace HL
open PySem PySem.Spec PyProof.Rows L2
open C8 (pss_cut)
/-- a def of the module as its callers take it -/
structure Cal (P : Program) (w : World) (K : PySem.W.Frag) (mg : Str → Option Value) (base : Heap) (CX : CXT) (j : Nat) (x : Str) (ps : List Str) (sp : Sp) : Prop where
  ex : ∃ f fd, FnOk P w K mg base CX j f fd ps sp ∧ mg x = some (.ref f) ∧ PySem.W.keepIn K (.ref f) = true ∧ Binds K fd ps []
section
variable {P : Program} {w : World} {K : PySem.W.Frag} {mg : Str → Option Value} {base : Heap}
/-! ### pick -/
theorem atI_mem {xs : List V} {i : Int} (h0 : 0 ≤ i) (h1 : i < (xs.length : Nat)) : ∃ z, atI xs i = some z ∧ z ∈ xs ∧ xs[i.toNat]? = some z := by
  have hl : i.toNat < xs.length := by omega
  have e : ((i.toNat : Nat) : Int) = i := by omega
  exact ⟨xs[i.toNat], (congrArg (atI xs) e.symm).trans (atI_nat (j := i.toNat) (List.getElem?_eq_getElem hl)), List.getElem_mem hl, List.getElem?_eq_getElem hl⟩
structure Bl (mg : Str → Option Value) : Prop where
  len : mg "len" = none
  list : mg "list" = none
  tuple : mg "tuple" = none
  dict : mg "dict" = none
  str : mg "str" = none
  int : mg "int" = none
  bool : mg "bool" = none
  isinstance : mg "isinstance" = none
  all : mg "all" = none
  range : mg "range" = none
  sum : mg "sum" = none
  min : mg "min" = none
  max : mg "max" = none
  enumerate : mg "enumerate" = none
theorem fnEither {CX : CXT} {k : Nat} {f : Addr} {fd : FuncData} {ps : List Str} {sp sp1 sp2 : Sp} (F1 : FnOk P w K mg base CX k f fd ps sp1) (F2 : FnOk P w K mg base CX k f fd ps sp2) (h : ∀ vs H Q E, sp vs H Q E → sp1 vs H Q E ∨ sp2 vs H Q E) : FnOk P w K mg base CX k f fd ps sp where
  len := fun vs H Q E q => (h vs H Q E q).elim (F1.len vs H Q E) (F2.len vs H Q E)
  run := fun A outer s H args us vs Q E hr e0 hb r q => (h vs H Q E q).elim (F1.run A outer s H args us vs Q E hr e0 hb r) (F2.run A outer s H args us vs Q E hr e0 hb r)
theorem yes {σ : L2.St} {H : Hp} {Q : Bool → Hp → Prop} (h : Q true H) : tYes σ H Q := h
theorem bl_self (b : Bool) : (!decide (V.bl b = V.bl b)) = false := by rw [decide_eq_true rfl]; rfl
end
end HL

namespace HL
open PySem PySem.Spec PyProof.Rows L2
open C8 (pss_cut)
/-! ### rows and lots in the heap -/
def Rows (H : Hp) : List Addr → List (List Int) → Prop
  | [], [] => True
  | a :: as, r :: rs => H a = some (.tup (r.map V.int)) ∧ Rows H as rs
  | _, _ => False
theorem Rows.len {H : Hp} : ∀ {as : List Addr} {ll : List (List Int)}, Rows H as ll → as.length = ll.length
  | [], [], _ => rfl
  | a :: as, r :: rs, h => by rw [List.length_cons, List.length_cons, Rows.len h.2]
  | [], _ :: _, h => h.elim
  | _ :: _, [], h => h.elim
theorem Rows.mono {H H' : Hp} : ∀ {as : List Addr} {ll : List (List Int)}, Rows H as ll → (∀ a xs, H a = some (.tup xs) → H' a = some (.tup xs)) → Rows H' as ll
  | [], [], _, _ => True.intro
  | a :: as, r :: rs, h, k => ⟨k _ _ h.1, Rows.mono h.2 k⟩
  | [], _ :: _, h, _ => h.elim
  | _ :: _, [], h, _ => h.elim
theorem Rows.same {H H' : Hp} {as : List Addr} {ll : List (List Int)} (h : Rows H as ll) (s : Same H H') : Rows H' as ll := h.mono fun a xs e => s _ _ e
theorem Rows.kp {H H' : Hp} {f c : Addr} {as : List Addr} {ll : List (List Int)} (h : Rows H as ll) (F : FeedAt c H f) (k : Kp f H H') : Rows H' as ll := h.mono fun a xs e => k _ _ (F.tup e) e
theorem Rows.app {H : Hp} : ∀ {as bs : List Addr} {ll mm : List (List Int)}, Rows H as ll → Rows H bs mm → Rows H (as ++ bs) (ll ++ mm)
  | [], _, [], _, _, h => h
  | a :: as, bs, r :: rs, mm, h, k => ⟨h.1, Rows.app h.2 k⟩
  | [], _, _ :: _, _, h, _ => h.elim
  | _ :: _, _, [], _, h, _ => h.elim
theorem Rows.take {H : Hp} : ∀ {as : List Addr} {ll : List (List Int)} (n : Nat), Rows H as ll → Rows H (as.take n) (ll.take n)
  | [], [], n, _ => by rw [List.take_nil, List.take_nil]; exact True.intro
  | _ :: _, _ :: _, 0, _ => True.intro
  | a :: as, r :: rs, n + 1, h => ⟨h.1, Rows.take n h.2⟩
  | [], _ :: _, _, h => h.elim
  | _ :: _, [], _, h => h.elim
theorem Rows.drop {H : Hp} : ∀ {as : List Addr} {ll : List (List Int)} (n : Nat), Rows H as ll → Rows H (as.drop n) (ll.drop n)
  | [], [], n, _ => by rw [List.drop_nil, List.drop_nil]; exact True.intro
  | _ :: _, _ :: _, 0, h => h
  | a :: as, r :: rs, n + 1, h => Rows.drop n h.2
  | [], _ :: _, _, h => h.elim
  | _ :: _, [], _, h => h.elim
theorem Rows.at {H : Hp} : ∀ {as : List Addr} {ll : List (List Int)} {i : Nat} {a : Addr}, Rows H as ll → as[i]? = some a → ∃ r, ll[i]? = some r ∧ H a = some (.tup (r.map V.int))
  | [], [], _, _, _, e => by simp at e
  | b :: as, r :: rs, 0, a, h, e => by
    have e' : b = a := Option.some.inj e
    subst e'
    exact ⟨r, rfl, h.1⟩
  | b :: as, r :: rs, i + 1, a, h, e => Rows.at (i := i) h.2 e
  | [], _ :: _, _, _, h, _ => h.elim
  | _ :: _, [], _, _, h, _ => h.elim
/-- a lot in the heap -/
def LotAt (H : Hp) (p : Addr) (ll : List (List Int)) : Prop := ∃ as : List Addr, H p = some (.tup (as.map V.ref)) ∧ Rows H as ll
theorem LotAt.same {H H' : Hp} {p : Addr} {ll : List (List Int)} (h : LotAt H p ll) (s : Same H H') : LotAt H' p ll := by
  obtain ⟨as, h1, h2⟩ := h
  exact ⟨as, s _ _ h1, h2.same s⟩
theorem LotAt.kp {H H' : Hp} {f c p : Addr} {ll : List (List Int)} (h : LotAt H p ll) (F : FeedAt c H f) (k : Kp f H H') : LotAt H' p ll := by
  obtain ⟨as, h1, h2⟩ := h
  exact ⟨as, k _ _ (F.tup h1) h1, h2.kp F k⟩
/-- a kind as it should be, of g amounts to m -/
def GoodRow (g m : Int) (r : List Int) : Prop := r.length = g.toNat ∧ (∀ n ∈ r, 0 ≤ n ∧ n ≤ m) ∧ ∃ n ∈ r, 0 < n
theorem pos_of_sum : ∀ {r : List Int}, (∀ n ∈ r, 0 ≤ n) → r.sum ≠ 0 → ∃ n ∈ r, 0 < n
  | [], _, h => absurd rfl h
  | x :: r, h0, h => by
    by_cases hx : 0 < x
    · exact ⟨x, List.mem_cons_self, hx⟩
    · have e : x = 0 := by
        have := h0 x List.mem_cons_self
        omega
      rw [List.sum_cons, e, Int.zero_add] at h
      obtain ⟨n, hn, hp⟩ := pos_of_sum (fun n hn => h0 n (List.mem_cons_of_mem _ hn)) h
      exact ⟨n, List.mem_cons_of_mem _ hn, hp⟩
/-! ### hold -/
theorem scHold : FnScope ["_law_feed_here", "_law_goods", "_law_most", "_law_hold_here", "_law_good"] ["_law_feed_here", "_law_goods", "_law_most"] (defScope sHold) := ⟨rfl, rfl, rfl, by decide +kernel, rfl, by decide +kernel, by decide +kernel⟩
theorem scLot : FnScope ["_law_feed_here", "_law_goods", "_law_kinds", "_law_most", "_law_kind"] ["_law_feed_here", "_law_goods", "_law_kinds", "_law_most"] (defScope sLot) := ⟨rfl, rfl, rfl, by decide +kernel, rfl, by decide +kernel, by decide +kernel⟩
section
variable {P : Program} {w : World} {K : PySem.W.Frag} {mg : Str → Option Value} {base : Heap}
def spHold : Sp := fun vs H Q _ => ∃ (f c : Addr) (g m : Int), vs = [.ref f, .int g, .int m] ∧ FeedAt c H f ∧ 1 ≤ g ∧ g ≤ 100 ∧ 1 ≤ m ∧ m ≤ 100 ∧
  ∀ H' p ns, Kp f H H' → FeedAt c H' f → H p = none → H' p = some (.tup (ns.map V.int)) → GoodRow g m ns → Q (.ref p) H'
theorem ok_hold {f : Addr} {fd : FuncData} (F : Fun K "_law_hold" "_law_hold" sHold f fd) (B : Bl mg) (CD : Cal P w K mg base CX0 1 "_law_draw" ["_law_feed_here", "_law_many"] spDraw) :
    FnOk P w K mg base CX0 2 f fd ["_law_feed_here", "_law_goods", "_law_most"] spHold := by
  obtain ⟨fD, fdD, GD, gD, kD, bD⟩ := CD.ex
  refine F.ok scHold (fun vs H Q E h => ?_) (fun cdv A outer s H vs Q E hr h => ?_)
  · obtain ⟨a, c, g, m, rfl, _⟩ := h
    rfl
  · obtain ⟨a, c, g, m, rfl, Fd, g1, g2, m1, m2, q⟩ := h
    refine ⟨_, pss_cons (ps_setLc (i := 3) (own := [("_law_good", 4)]) (g := gName 4) (tt := tYes) rfl scHold.nd rfl rfl (sw_true rfl rfl rfl (by decide +kernel)) (pi_range1 (by rfl) B.range (pa_cons (pv 1) pa_nil))
          (blkOk_by (own := [("_law_good", 4)]) (N := ["_law_feed_here", "_law_goods", "_law_most", "_law_hold_here", "_law_good"]) (sc := defScope sHold) (by decide +kernel)) (fun _ _ _ _ _ => pg_name (i := 4) scHold.nd rfl (Or.inl rfl)) (fun _ _ _ _ _ => pts_nil)
          (fun _ _ _ _ _ => pe_ifExp (pt_cmpR op_gt (pe_call GD hr (by rfl) gD kD bD .nil pass0 (pa_cons (pv 0) (pa_cons pe_int pa_nil))) pe_int (nomark _)) (pe_call GD hr (by rfl) gD kD bD .nil pass0 (pa_cons (pv 0) (pa_cons (pe_op op_add (pv 2) pe_int) pa_nil))) pe_int))
      (pss_cut (ps_if (pt_cmpR op_eq (pe_callB (cr_sum rfl) (by rfl) B.sum (by decide +kernel) (pa_cons (pv 3) pa_nil)) pe_int (nomark _))
          (pss_one (ps_asg (pe_op op_add pe_int (pe_call GD hr (by rfl) gD kD bD .nil pass0 (pa_cons (pv 0) (pa_cons (pv 2) pa_nil)))) (pg_sub (pv 3) (pe_call GD hr (by rfl) gD kD bD .nil pass0 (pa_cons (pv 0) (pa_cons (pv 1) pa_nil))) set_list))) pss_nil)
        (pss_one (ps_ret (pe_callTy call_tuple_of (by rfl) B.tuple (by decide +kernel) (pa_cons (pv 3) pa_nil))))), ?_⟩
    refine ⟨.int g, rfl, g, rfl, by omega, by omega, fun D nD => ?_⟩
    have nDf : D ≠ a := Fd.ne nD
    have nDc : D ≠ c := Fd.neC nD
    refine lc_range (lo := 0) (n := g.toNat) (fun i H' => Kp a H H' ∧ FeedAt c H' a ∧ ∃ ns : List Int, H' D = some (.lst (ns.map V.int)) ∧ ns.length = i ∧ ∀ n ∈ ns, 0 ≤ n ∧ n ≤ m)
      ⟨Kp.new nD, Fd.new nD, [], upd_same, rfl, fun n hn => by cases hn⟩ (fun i H' hi ⟨kp, F', ns, hD, hl, hb⟩ => ?_) (fun H' ⟨kp, F', ns, hD, hl, hb⟩ => ?_)
    · refine ⟨rfl, yes (iteT ?_)⟩
      have more : ∀ (H2 : Hp) (d : Int), Kp a H' H2 → FeedAt c H2 a → 0 ≤ d → d ≤ m → ∃ acc, H2 D = some (.lst acc) ∧ acc.length < sizeLine ∧ Kp a H (upd H2 D (.lst (acc ++ [.int d]))) ∧ FeedAt c (upd H2 D (.lst (acc ++ [.int d]))) a ∧
          ∃ ns : List Int, upd H2 D (.lst (acc ++ [.int d])) D = some (.lst (ns.map V.int)) ∧ ns.length = i + 1 ∧ ∀ n ∈ ns, 0 ≤ n ∧ n ≤ m := fun H2 d k2 F2 d0 d1 => by
        have hD2 := k2 _ _ nDf hD
        refine ⟨_, hD2, ?_, ?_, ?_, ns ++ [d], ?_, ?_, ?_⟩
        · rw [List.length_map]
          exact small1000 (by omega)
        · exact (kp.trans k2).late nD
        · exact F2.put nDf nDc
        · rw [upd_same, List.map_append]
          rfl
        · rw [List.length_append, hl]
          rfl
        · intro n hn
          rcases List.mem_append.mp hn with h | h
          · exact hb n h
          · rw [List.mem_singleton.mp h]
            exact ⟨d0, d1⟩
      refine ⟨.ref a, rfl, a, c, 3, rfl, by decide, by decide, F', fun d1 H1 _ _ k1 F1 => ?_⟩
      refine ⟨d1, 0, rfl, rfl, _, rfl, ite2 (fun _ => ?_) (fun _ => ?_)⟩
      · refine ⟨.ref a, rfl, .int m, rfl, m, 1, rfl, rfl, a, c, m + 1, rfl, by omega, by omega, F1, fun d2 H2 e0 e1 k2 F2 => ?_⟩
        exact more H2 d2 (k1.trans k2) F2 e0 (by omega)
      · exact more H1 0 k1 F1 (by decide) (by omega)
    · -- behind the comprehension
      refine ⟨fun σ' H2 => ∃ ns : List Int, σ' = [some (.ref a), some (.int g), some (.int m), some (.ref D), none] ∧ Kp a H H2 ∧ FeedAt c H2 a ∧ H2 D = some (.lst (ns.map V.int)) ∧ GoodRow g m ns, ?_, ?_⟩
      · refine ⟨.ref D, rfl, D, ns, rfl, SqL.of hD, rfl, _, rfl, ite2 (fun cs => ?_) (fun cs => ?_)⟩
        · refine ⟨.ref a, rfl, .int m, rfl, a, c, m, rfl, by omega, by omega, F', fun d1 H1 e0 e1 k1 F1 => ?_⟩
          refine ⟨1, d1, rfl, rfl, .ref D, rfl, .ref a, rfl, .int g, rfl, a, c, g, rfl, by omega, by omega, F1, fun d2 H2 c0 c1 k2 F2 => ?_⟩
          have hD2 : H2 D = some (.lst (ns.map V.int)) := k2 _ _ nDf (k1 _ _ nDf hD)
          have hj : ixN (ns.map V.int).length d2 = some d2.toNat := by
            unfold ixN
            rw [if_pos c0, if_pos (by rw [List.length_map]; omega)]
          refine ⟨D, _, d2, d2.toNat, rfl, rfl, hD2, hj, ns.set d2.toNat (1 + d1), rfl, ?_, ?_, ?_, ?_, ?_, ?_⟩
          · exact (kp.trans (k1.trans k2)).late nD
          · exact F2.put nDf nDc
          · rw [upd_same, List.map_set]
          · rw [List.length_set]
            exact hl
          · intro n hn
            rcases List.mem_or_eq_of_mem_set hn with h | h
            · exact hb n h
            · rw [h]
              omega
          · exact ⟨1 + d1, List.mem_iff_getElem.mpr ⟨d2.toNat, by rw [List.length_set]; omega, by simp⟩, by omega⟩
        · have hs : ns.sum ≠ 0 := fun z => cs (decide_eq_true (by rw [z]))
          exact ⟨ns, rfl, kp, F', hD, hl, hb, pos_of_sum (fun n hn => (hb n hn).1) hs⟩
      · rintro σ' H2 ⟨ms, rfl, k2, F2, hD2, G2⟩
        refine ⟨.ref D, rfl, D, _, rfl, .inl ⟨SqL.of hD2, fun p np => ?_⟩⟩
        exact q _ p ms (k2.trans (Kp.new np)) (F2.new np) (k2.free (F2.ne np) np) upd_same G2
end
end HL

namespace HL
open PySem PySem.Spec PyProof.Rows L2
open C8 (pss_cut)
section
variable {P : Program} {w : World} {K : PySem.W.Frag} {mg : Str → Option Value} {base : Heap}
/-! ### lots -/
/-- a lot as it should be -/
def GoodLot (g m : Int) (n : Nat) (ll : List (List Int)) : Prop := 1 ≤ ll.length ∧ ll.length ≤ n ∧ ∀ r ∈ ll, GoodRow g m r
def spLot : Sp := fun vs H Q _ => ∃ (f c : Addr) (g kk m : Int), vs = [.ref f, .int g, .int kk, .int m] ∧ FeedAt c H f ∧ 1 ≤ g ∧ g ≤ 100 ∧ 1 ≤ kk ∧ kk ≤ 100 ∧ 1 ≤ m ∧ m ≤ 100 ∧
  ∀ H' p ll, Kp f H H' → FeedAt c H' f → H p = none → LotAt H' p ll → GoodLot g m kk.toNat ll → Q (.ref p) H'
theorem ok_lot {f : Addr} {fd : FuncData} (F : Fun K "_law_lot" "_law_lot" sLot f fd) (B : Bl mg) (CD : Cal P w K mg base CX0 1 "_law_draw" ["_law_feed_here", "_law_many"] spDraw)
    (CH : Cal P w K mg base CX0 2 "_law_hold" ["_law_feed_here", "_law_goods", "_law_most"] spHold) : FnOk P w K mg base CX0 3 f fd ["_law_feed_here", "_law_goods", "_law_kinds", "_law_most"] spLot := by
  obtain ⟨fD, fdD, GD, gD, kD, bD⟩ := CD.ex
  obtain ⟨fH, fdH, GH, gH, kH, bH⟩ := CH.ex
  refine F.ok scLot (fun vs H Q E h => ?_) (fun cdv A outer s H vs Q E hr h => ?_)
  · obtain ⟨a, c, g, kk, m, rfl, _⟩ := h
    rfl
  · obtain ⟨a, c, g, kk, m, rfl, Fd, g1, g2, n1, n2, m1, m2, q⟩ := h
    refine ⟨_, pss_one (ps_ret (pe_callTy call_tuple_of (by rfl) B.tuple (by decide +kernel) (pa_cons
      (pe_lc (own := [("_law_kind", 4)]) (g := gName 4) (tt := tYes) rfl scLot.nd (pi_range1 (by rfl) B.range (pa_cons (pe_op op_add pe_int (pe_call GD (hr.mono (by decide)) (by rfl) gD kD bD .nil pass0 (pa_cons (pv 0) (pa_cons (pv 2) pa_nil)))) pa_nil))
        (blkOk_by (own := [("_law_kind", 4)]) (N := ["_law_feed_here", "_law_goods", "_law_kinds", "_law_most", "_law_kind"]) (sc := defScope sLot) (by decide +kernel)) (fun _ _ _ _ _ => pg_name (i := 4) scLot.nd rfl (Or.inl rfl)) (fun _ _ _ _ _ => pts_nil)
        (fun _ _ _ _ _ => pe_call GH hr (by rfl) gH kH bH .nil pass0 (pa_cons (pv 0) (pa_cons (pv 1) (pa_cons (pv 3) pa_nil))))) pa_nil))), ?_⟩
    refine ⟨.ref a, rfl, .int kk, rfl, a, c, kk, rfl, by omega, by omega, Fd, fun d H1 d0 d1 k1 F1 => ?_⟩
    refine ⟨1, d, rfl, rfl, 1 + d, rfl, by omega, by omega, fun D nD => ?_⟩
    have nDf : D ≠ a := F1.ne nD
    have nDc : D ≠ c := F1.neC nD
    have nD0 : H D = none := k1.free nDf nD
    refine lc_range (lo := 0) (n := (1 + d).toNat) (fun i H' => Kp a H H' ∧ FeedAt c H' a ∧ ∃ (as : List Addr) (ll : List (List Int)), H' D = some (.lst (as.map V.ref)) ∧ Rows H' as ll ∧ ll.length = i ∧ ∀ r ∈ ll, GoodRow g m r)
      ⟨k1.late nD0, F1.new nD, [], [], upd_same, True.intro, rfl, fun n hn => by cases hn⟩ (fun i H' hi ⟨kp, F', as, ll, hD, hR, hl, hb⟩ => ?_) (fun H' ⟨kp, F', as, ll, hD, hR, hl, hb⟩ => ?_)
    · refine ⟨rfl, yes (iteT ?_)⟩
      refine ⟨.ref a, rfl, .int g, rfl, .int m, rfl, a, c, g, m, rfl, F', g1, g2, m1, m2, fun H2 p ns k2 F2 np hp gr => ?_⟩
      have hD2 := k2 _ _ nDf hD
      have nt : ∀ b xs, H2 b = some (.tup xs) → upd H2 D (.lst (as.map V.ref ++ [.ref p])) b = some (.tup xs) := fun b xs e => by
        rw [upd_ne (ne_of e hD2 (fun z => by cases z))]
        exact e
      refine ⟨_, hD2, ?_, (kp.trans k2).late nD0, F2.put nDf nDc, as ++ [p], ll ++ [ns], ?_, ?_, ?_, ?_⟩
      · rw [List.length_map, hR.len]
        exact small1000 (by omega)
      · rw [upd_same, List.map_append]
        rfl
      · exact ((hR.kp F' k2).mono nt).app ⟨nt _ _ hp, True.intro⟩
      · rw [List.length_append, hl]
        rfl
      · intro r hr
        rcases List.mem_append.mp hr with h | h
        · exact hb r h
        · rw [List.mem_singleton.mp h]
          exact gr
    · refine ⟨D, _, rfl, .inl ⟨SqL.of hD, fun p np => ?_⟩⟩
      exact q _ p ll (kp.trans (Kp.new np)) (F'.new np) (kp.free (F'.ne np) np) ⟨as, upd_same, hR.same (same_new np)⟩ ⟨by omega, by omega, hb⟩
theorem rep_one (v : V) : ∀ n : Nat, (List.replicate n [v]).flatten = List.replicate n v
  | 0 => rfl
  | n + 1 => by
    rw [List.replicate_succ, List.flatten_cons, rep_one v n, List.replicate_succ]
    rfl
end
end HL

namespace HL
open PySem PySem.Spec PyProof.Rows L2
open C8 (pss_cut)
/-! ### what a lot must be -/
def okRow (g : Nat) (r : List Int) : Bool := decide (r.length = g) && (r.all (fun n => decide (0 ≤ n ∧ n ≤ 6)) && r.any (fun n => decide (0 < n)))
def flawIn (g : Nat) (ll : List (List Int)) : Option Int := (ll.findIdx? fun r => !okRow g r).map fun i => (i : Int)
def width (ll : List (List Int)) : Nat := (ll.headD []).length
def flaw (ll : List (List Int)) : Option Int := if 1 ≤ ll.length ∧ ll.length ≤ 5 ∧ 1 ≤ width ll ∧ width ll ≤ 3 then flawIn (width ll) ll else some (-1)
def flawV (ll : List (List Int)) : V := match flaw ll with
  | none => .non
  | some k => .int k
theorem flawIn_at {g : Nat} {ll : List (List Int)} {i : Nat} {r : List Int} (h : ll[i]? = some r) (hb : okRow g r = false) (ha : ∀ (j : Nat) (r' : List Int), j < i → ll[j]? = some r' → okRow g r' = true) : flawIn g ll = some (i : Int) := by
  unfold flawIn
  obtain ⟨hi, he⟩ := List.getElem?_eq_some_iff.mp h
  have e : ll.findIdx? (fun r => !okRow g r) = some i := by
    refine List.findIdx?_eq_some_iff_getElem.mpr ⟨hi, by rw [he, hb]; rfl, fun j hj => ?_⟩
    rw [ha j ll[j] hj (List.getElem?_eq_getElem (by omega))]
    decide
  rw [e]
  rfl
theorem flawIn_none {g : Nat} {ll : List (List Int)} (ha : ∀ (j : Nat) (r' : List Int), j < ll.length → ll[j]? = some r' → okRow g r' = true) : flawIn g ll = none := by
  unfold flawIn
  have e : ll.findIdx? (fun r => !okRow g r) = none := by
    refine List.findIdx?_eq_none_iff.mpr fun r hr => ?_
    obtain ⟨j, hj, hjr⟩ := List.mem_iff_getElem.mp hr
    rw [ha j r hj (by rw [List.getElem?_eq_getElem hj, hjr])]
    rfl
  rw [e]
  rfl
theorem all_in {r : List Int} : (r.all (fun n => decide (0 ≤ n ∧ n ≤ 6))) = true ↔ ∀ n ∈ r, 0 ≤ n ∧ n ≤ 6 := by
  rw [List.all_eq_true]
  exact ⟨fun h n hn => of_decide_eq_true (h n hn), fun h n hn => decide_eq_true (h n hn)⟩
theorem any_pos {r : List Int} : (r.any (fun n => decide (0 < n))) = true ↔ ∃ n ∈ r, 0 < n := by
  rw [List.any_eq_true]
  exact ⟨fun ⟨n, hn, h⟩ => ⟨n, hn, of_decide_eq_true h⟩, fun ⟨n, hn, h⟩ => ⟨n, hn, decide_eq_true h⟩⟩
theorem okRow_iff {g : Nat} {r : List Int} : okRow g r = true ↔ r.length = g ∧ (∀ n ∈ r, 0 ≤ n ∧ n ≤ 6) ∧ ∃ n ∈ r, 0 < n := by
  unfold okRow
  rw [Bool.and_eq_true, Bool.and_eq_true, decide_eq_true_iff, all_in, any_pos]
theorem sum_pos {r : List Int} (h0 : ∀ n ∈ r, 0 ≤ n) (h : ∃ n ∈ r, 0 < n) : 0 < r.sum := by
  induction r with
  | nil => obtain ⟨n, hn, _⟩ := h; cases hn
  | cons x r ih =>
    rw [List.sum_cons]
    have x0 := h0 x List.mem_cons_self
    have rest : 0 ≤ r.sum := by
      clear ih h
      induction r with
      | nil => exact Int.le_refl _
      | cons y r ih2 =>
        rw [List.sum_cons]
        have := h0 y (List.mem_cons_of_mem _ List.mem_cons_self)
        have := ih2 fun n hn => h0 n (by
          rcases List.mem_cons.mp hn with h | h
          · rw [h]; exact List.mem_cons_self
          · exact List.mem_cons_of_mem _ (List.mem_cons_of_mem _ h))
        omega
    obtain ⟨n, hn, hp⟩ := h
    rcases List.mem_cons.mp hn with h | h
    · omega
    · have := ih (fun n hn => h0 n (List.mem_cons_of_mem _ hn)) ⟨n, h, hp⟩
      omega
/-- 1 <= x <= 5 as a test -/
theorem chainI {i j L : Int} {H : Hp} {Q : Bool → Hp → Prop} (h : Q (decide (i ≤ L ∧ L ≤ j)) H) :
    if decide (i ≤ L) = true then (∃ a b : Int, V.int L = V.int a ∧ V.int j = V.int b ∧ ∃ k, V.bl (decide (a ≤ b)) = V.bl k ∧ Q k H) else ∃ k, V.bl false = V.bl k ∧ Q k H := by
  by_cases c : i ≤ L
  · rw [if_pos (decide_eq_true c)]
    refine ⟨L, j, rfl, rfl, _, rfl, ?_⟩
    rw [show decide (L ≤ j) = decide (i ≤ L ∧ L ≤ j) by simp [c]]
    exact h
  · rw [if_neg (fun z => c (of_decide_eq_true z))]
    refine ⟨false, rfl, ?_⟩
    rw [show false = decide (i ≤ L ∧ L ≤ j) by simp [c]]
    exact h
theorem Rows.head {H : Hp} {as : List Addr} {ll : List (List Int)} (h : Rows H as ll) (hl : 1 ≤ ll.length) : ∃ a, as[0]? = some a ∧ H a = some (.tup ((ll.headD []).map V.int)) ∧ (ll.headD []).length = width ll := by
  cases as with
  | nil =>
    cases ll with
    | nil => simp at hl
    | cons r rs => exact h.elim
  | cons a as =>
    cases ll with
    | nil => simp at hl
    | cons r rs => exact ⟨a, rfl, h.1, rfl⟩
end HL

namespace HL
open PySem PySem.Spec PyProof.Rows L2
open C8 (pss_cut)
open RZ (pi_zipA ItzT iZipA)
theorem scIH : FnScope ["hold", "goods", "amount"] ["hold", "goods"] (defScope sIsHold) := ⟨rfl, rfl, rfl, by decide +kernel, rfl, by decide +kernel, by decide +kernel⟩
theorem scLk : FnScope ["lot", "kind", "hold"] ["lot"] (defScope sLook) := ⟨rfl, rfl, rfl, by decide +kernel, rfl, by decide +kernel, by decide +kernel⟩
theorem scGo : FnScope ["lot"] ["lot"] (defScope sGoods) := ⟨rfl, rfl, rfl, by decide +kernel, rfl, by decide +kernel, by decide +kernel⟩
/-- 0 <= x <= 6 as a value -/
theorem chainV {i j L : Int} {H : Hp} {σ : L2.St} {Q : VK} (h : Q (.bl (decide (i ≤ L ∧ L ≤ j))) H) :
    if decide (i ≤ L) = true then tC (.int j) σ H (fun v H4 => rI0 (fun i j => V.bl (decide (i ≤ j))) (.int L) v H4 Q) else Q (.bl false) H := by
  by_cases c : i ≤ L
  · rw [if_pos (decide_eq_true c)]
    refine ⟨L, j, rfl, rfl, ?_⟩
    show Q (.bl (decide (L ≤ j))) H
    rw [show decide (L ≤ j) = decide (i ≤ L ∧ L ≤ j) by simp [c]]
    exact h
  · rw [if_neg (fun z => c (of_decide_eq_true z))]
    rw [show false = decide (i ≤ L ∧ L ≤ j) by simp [c]]
    exact h
section
variable {P : Program} {w : World} {K : PySem.W.Frag} {mg : Str → Option Value} {base : Heap}
def spIsHold : Sp := fun vs H Q _ => ∃ (a : Addr) (g : Nat) (r : List Int), vs = [.ref a, .int (g : Int)] ∧ H a = some (.tup (r.map V.int)) ∧ r.length ≤ 1000 ∧ 1 ≤ g ∧ ∀ H', Same H H' → Q (.bl (okRow g r)) H'
structure Consts (mg : Str → Option Value) : Prop where
  hold : ∃ t, mg "MOST_HOLD" = some (.int 6 t)
  kinds : ∃ t, mg "MOST_KINDS" = some (.int 5 t)
  goods : ∃ t, mg "MOST_GOODS" = some (.int 3 t)
theorem ok_isHold {f : Addr} {fd : FuncData} {k : Nat} (F : Fun K "is_hold" "is_hold" sIsHold f fd) (B : Bl mg) (M : Consts mg) : FnOk P w K mg base CX0 (k + 1) f fd ["hold", "goods"] spIsHold := by
  obtain ⟨t6, m6⟩ := M.hold
  refine F.ok scIH (fun vs H Q E h => ?_) (fun cdv A outer s H vs Q E hr h => ?_)
  · obtain ⟨a, g, r, rfl, _⟩ := h
    rfl
  · obtain ⟨a, g, r, rfl, ha, hz, g1, q⟩ := h
    refine ⟨_, pss_one (ps_ret (pe_and (pe_cmpR op_eq (pe_callB call_len_seq (by rfl) B.len PySem.boot_len (pa_cons (pv 0) pa_nil)) (pv 1) (nomark _))
      (pe_and (pe_callB (cr_all rfl) (by rfl) B.all (by decide +kernel) (pa_cons (pe_lc (own := [("amount", 2)]) (g := gName 2) (tt := tYes) rfl scIH.nd (pi_tup (pv 0))
          (blkOk_by (own := [("amount", 2)]) (N := ["hold", "goods", "amount"]) (sc := defScope sIsHold) (by decide +kernel)) (fun _ _ _ _ _ => pg_name (i := 2) scIH.nd rfl (Or.inl rfl)) (fun _ _ _ _ _ => pts_nil)
          (fun _ _ _ _ _ => pe_chain op_le op_le pe_int (pv 2) (pe_glob (v := .int 6) rfl m6 ⟨_, rfl⟩))) pa_nil))
        (pe_one (pe_cmpR op_gt (pe_callB (cr_maxT rfl hr.units) (by rfl) B.max (by decide +kernel) (pa_cons (pv 0) pa_nil)) pe_int (nomark _)))))), ?_⟩
    have sA : SqT K H a (r.map V.int) := SqT.of ha
    refine ⟨.ref a, rfl, a, _, rfl, .inr sA, .int (g : Int), rfl, rfl, _, rfl, ?_⟩
    rw [List.length_map]
    refine ite2 (fun c1 => ?_) (fun c1 => ?_)
    · have hl : r.length = g := by
        have := V.int.inj (of_decide_eq_true c1)
        omega
      refine ⟨.ref a, rfl, a, rfl, ⟨_, sA⟩, fun D nD => ?_⟩
      refine lc_tup (K := K) (a := a) (xs := r.map V.int) (fun i H' => Same H H' ∧ H' D = some (.lst (((r.take i).map fun n => decide (0 ≤ n ∧ n ≤ 6)).map V.bl))) ⟨same_new nD, upd_same⟩ (fun i H' _ ⟨sm, _⟩ => SqT.of (sm _ _ ha)) (fun i x H' hx ⟨sm, hD⟩ => ?_) (fun H' ⟨sm, hD⟩ => ?_)
      · obtain ⟨n, hn, rfl⟩ : ∃ n, r[i]? = some n ∧ x = V.int n := by
          rw [List.getElem?_map] at hx
          cases e : r[i]? with
          | none => rw [e] at hx; cases hx
          | some n => rw [e] at hx; exact ⟨n, rfl, (Option.some.inj hx).symm⟩
        refine ⟨rfl, yes (iteT ?_)⟩
        refine ⟨.int n, rfl, 0, n, rfl, rfl, _, rfl, chainV ?_⟩
        refine ⟨_, hD, ?_, same_late sm nD, ?_⟩
        · rw [List.length_map, List.length_map]
          exact small1000 (Nat.le_trans (List.length_take_le' _ _) hz)
        · rw [upd_same, List.take_add_one, hn, List.map_append, List.map_append]
          rfl
      · rw [List.length_map, List.take_length] at hD
        refine ⟨D, _, rfl, SqL.of hD, _, rfl, ?_⟩
        have eall : ((r.map fun n => decide (0 ≤ n ∧ n ≤ 6)).all id) = r.all (fun n => decide (0 ≤ n ∧ n ≤ 6)) := by
          rw [List.all_map]
          rfl
        rw [eall]
        refine ite2 (fun c2 => ?_) (fun c2 => ?_)
        · refine ⟨.ref a, rfl, a, r, rfl, SqT.of (sm _ _ ha), by omega, fun mx hmx hmax => ?_⟩
          refine ⟨mx, 0, rfl, rfl, ?_⟩
          have e : decide ((0 : Int) < mx) = okRow g r := by
            unfold okRow
            rw [decide_eq_true hl, c2, Bool.true_and, Bool.true_and]
            by_cases z : 0 < mx
            · rw [decide_eq_true z, any_pos.mpr ⟨mx, hmx, z⟩]
            · rw [decide_eq_false z]
              cases y : r.any (fun n => decide (0 < n)) with
              | false => rfl
              | true =>
                obtain ⟨n, hn, h0⟩ := any_pos.mp y
                have := hmax n hn
                omega
          have q1 := q H' sm
          rw [← e] at q1
          exact q1
        · have e : okRow g r = false := by
            unfold okRow
            rw [Bool.eq_false_iff.mpr c2, Bool.false_and, Bool.and_false]
          have q1 := q H' sm
          rw [e] at q1
          exact q1
    · have e : okRow g r = false := by
        unfold okRow
        rw [decide_eq_false (fun z => c1 (decide_eq_true (by rw [z]))), Bool.false_and]
      have q1 := q H (Same.refl _)
      rw [e] at q1
      exact q1
end
theorem flaw_ok {ll : List (List Int)} (h : flaw ll = none) : 1 ≤ ll.length ∧ ll.length ≤ 5 ∧ 1 ≤ width ll ∧ width ll ≤ 3 := by
  unfold flaw at h
  by_cases c : 1 ≤ ll.length ∧ ll.length ≤ 5 ∧ 1 ≤ width ll ∧ width ll ≤ 3
  · exact c
  · rw [if_neg c] at h
    cases h
theorem flaw_rows {ll : List (List Int)} (h : flaw ll = none) : ∀ r ∈ ll, r.length = width ll ∧ ∀ n ∈ r, 0 ≤ n ∧ n ≤ 6 := by
  have h0 := flaw_ok h
  unfold flaw at h
  rw [if_pos ⟨h0.1, h0.2.1, h0.2.2.1, h0.2.2.2⟩] at h
  unfold flawIn at h
  have e : ll.findIdx? (fun r => !okRow (width ll) r) = none := by
    cases z : ll.findIdx? (fun r => !okRow (width ll) r) with
    | none => rfl
    | some i => rw [z] at h; cases h
  intro r hr
  have := List.findIdx?_eq_none_iff.mp e r hr
  have b : okRow (width ll) r = true := by
    cases z : okRow (width ll) r with
    | true => rfl
    | false => rw [z] at this; cases this
  obtain ⟨o1, o2, _⟩ := okRow_iff.mp b
  exact ⟨o1, o2⟩
theorem nilA {σ : L2.St} {H : Hp} {Q : List V → Hp → Prop} (h : Q [] H) : tNil σ H Q := h
/-- i <= x <= e, e any expression -/
theorem chainE {i j L : Int} {te : TE} {σ : L2.St} {H : Hp} {Q : Bool → Hp → Prop} (hte : ∀ Q' : VK, Q' (.int j) H → te σ H Q') (h : Q (decide (i ≤ L ∧ L ≤ j)) H) :
    if decide (i ≤ L) = true then te σ H (fun v H4 => rI0 (fun i j => V.bl (decide (i ≤ j))) (.int L) v H4 (fun x H' => ∃ k, x = .bl k ∧ Q k H')) else ∃ k, V.bl false = V.bl k ∧ Q k H := by
  by_cases c : i ≤ L
  · rw [if_pos (decide_eq_true c)]
    refine hte _ ⟨L, j, rfl, rfl, _, rfl, ?_⟩
    rw [show decide (L ≤ j) = decide (i ≤ L ∧ L ≤ j) by simp [c]]
    exact h
  · rw [if_neg (fun z => c (of_decide_eq_true z))]
    refine ⟨false, rfl, ?_⟩
    rw [show false = decide (i ≤ L ∧ L ≤ j) by simp [c]]
    exact h
/-- i <= x < e -/
theorem chainF {i j L : Int} {te : TE} {σ : L2.St} {H : Hp} {Q : Bool → Hp → Prop} (hte : ∀ Q' : VK, Q' (.int j) H → te σ H Q') (h : Q (decide (i ≤ L ∧ L < j)) H) :
    if decide (i ≤ L) = true then te σ H (fun v H4 => rI0 (fun i j => V.bl (decide (i < j))) (.int L) v H4 (fun x H' => ∃ k, x = .bl k ∧ Q k H')) else ∃ k, V.bl false = V.bl k ∧ Q k H := by
  by_cases c : i ≤ L
  · rw [if_pos (decide_eq_true c)]
    refine hte _ ⟨L, j, rfl, rfl, _, rfl, ?_⟩
    rw [show decide (L < j) = decide (i ≤ L ∧ L < j) by simp [c]]
    exact h
  · rw [if_neg (fun z => c (of_decide_eq_true z))]
    refine ⟨false, rfl, ?_⟩
    rw [show false = decide (i ≤ L ∧ L < j) by simp [c]]
    exact h
end HL

namespace HL
open PySem PySem.Spec PyProof.Rows L2
open C8 (pss_cut)
/-! ### tuples cut and joined -/
theorem sz1000 {n : Nat} (h : n ≤ 1000) : n ≤ sizeLine := Nat.le_of_lt (small1000 h)
theorem cat_read {K : PySem.W.Frag} {H : Hp} {a b : Addr} {xs ys : List V} {Q : VK} (ha : H a = some (.tup xs)) (hb : H b = some (.tup ys)) (hz : xs.length + ys.length ≤ 1000)
    (q : ∀ p H', Same H H' → H' p = some (.tup (xs ++ ys)) → Q (.ref p) H') : rCatA K (.ref a) (.ref b) H Q := by
  refine ⟨a, b, xs, ys, rfl, rfl, SqT.of ha, SqT.of hb, sz1000 hz, fun e => ?_, fun _ e => ?_, fun _ _ p np => q p _ (same_new np) upd_same⟩
  · subst e
    exact q b H (Same.refl _) hb
  · subst e
    exact q a H (Same.refl _) (by rw [List.append_nil]; exact ha)
theorem slice_read {K : PySem.W.Frag} {H : Hp} {a : Addr} {xs : List V} {lo hi : Option Int} {Q : VK} (ha : H a = some (.tup xs)) (q : ∀ p H', Same H H' → H' p = some (.tup (cutV xs lo hi)) → Q (.ref p) H') : rSlA K (.ref a) lo hi H Q := by
  refine ⟨a, xs, rfl, SqT.of ha, fun e => ?_, fun _ p np => q p _ (same_new np) upd_same⟩
  refine q a H (Same.refl _) ?_
  unfold cutV
  rw [e.1, e.2, List.drop_zero, Nat.sub_zero, List.take_length]
  exact ha
theorem cut_ex (L : Nat) (lo hi : Option Int) : ∃ n m : Nat, ∀ {α : Type} (f : α → V) (l : List α), l.length = L → cutV (l.map f) lo hi = ((l.drop n).take m).map f :=
  ⟨HT.sIx L 0 lo, HT.sIx L L hi - HT.sIx L 0 lo, fun f l h => by
    unfold cutV
    rw [List.length_map, h, List.map_take, List.map_drop]⟩
/-- a tuple of ints, a tuple of rows -/
def IntsAt (H : Hp) (p : Addr) (ns : List Int) : Prop := H p = some (.tup (ns.map V.int))
def RowsAt (H : Hp) (p : Addr) (as : List Addr) (ll : List (List Int)) : Prop := H p = some (.tup (as.map V.ref)) ∧ Rows H as ll
theorem IntsAt.same {H H' : Hp} {p : Addr} {ns : List Int} (h : IntsAt H p ns) (s : Same H H') : IntsAt H' p ns := s _ _ h
theorem RowsAt.same {H H' : Hp} {p : Addr} {as : List Addr} {ll : List (List Int)} (h : RowsAt H p as ll) (s : Same H H') : RowsAt H' p as ll := ⟨s _ _ h.1, h.2.same s⟩
theorem RowsAt.kp {H H' : Hp} {f c p : Addr} {as : List Addr} {ll : List (List Int)} (h : RowsAt H p as ll) (F : FeedAt c H f) (k : Kp f H H') : RowsAt H' p as ll := ⟨k _ _ (F.tup h.1) h.1, h.2.kp F k⟩
theorem RowsAt.lot {H : Hp} {p : Addr} {as : List Addr} {ll : List (List Int)} (h : RowsAt H p as ll) : LotAt H p ll := ⟨as, h.1, h.2⟩
theorem IntsAt.kp {H H' : Hp} {f c p : Addr} {ns : List Int} (h : IntsAt H p ns) (F : FeedAt c H f) (k : Kp f H H') : IntsAt H' p ns := k _ _ (F.tup h) h
theorem cat_ints {K : PySem.W.Frag} {H : Hp} {a b : Addr} {xs ys : List Int} {Q : VK} (ha : IntsAt H a xs) (hb : IntsAt H b ys) (hz : xs.length + ys.length ≤ 1000)
    (q : ∀ p H', Same H H' → IntsAt H' p (xs ++ ys) → Q (.ref p) H') : rCatA K (.ref a) (.ref b) H Q :=
  cat_read ha hb (by rw [List.length_map, List.length_map]; exact hz) fun p H' s h => q p H' s (by unfold IntsAt; rw [List.map_append]; exact h)
theorem cat_rows {K : PySem.W.Frag} {H : Hp} {a b : Addr} {as bs : List Addr} {ll mm : List (List Int)} {Q : VK} (ha : RowsAt H a as ll) (hb : RowsAt H b bs mm) (hz : ll.length + mm.length ≤ 1000)
    (q : ∀ p H', Same H H' → RowsAt H' p (as ++ bs) (ll ++ mm) → Q (.ref p) H') : rCatA K (.ref a) (.ref b) H Q :=
  cat_read ha.1 hb.1 (by rw [List.length_map, List.length_map, ha.2.len, hb.2.len]; exact hz) fun p H' s h => q p H' s ⟨by rw [List.map_append]; exact h, (ha.2.same s).app (hb.2.same s)⟩
theorem slice_ints {K : PySem.W.Frag} {H : Hp} {a : Addr} {xs : List Int} {lo hi : Option Int} {Q : VK} (ha : IntsAt H a xs) (q : ∀ p H' n m, Same H H' → IntsAt H' p ((xs.drop n).take m) → Q (.ref p) H') : rSlA K (.ref a) lo hi H Q := by
  obtain ⟨n, m, e⟩ := cut_ex xs.length lo hi
  exact slice_read ha fun p H' s h => q p H' n m s (by unfold IntsAt; rw [← e V.int xs rfl]; exact h)
theorem slice_rows {K : PySem.W.Frag} {H : Hp} {a : Addr} {as : List Addr} {ll : List (List Int)} {lo hi : Option Int} {Q : VK} (ha : RowsAt H a as ll)
    (q : ∀ p H' n m, Same H H' → RowsAt H' p ((as.drop n).take m) ((ll.drop n).take m) → Q (.ref p) H') : rSlA K (.ref a) lo hi H Q := by
  obtain ⟨n, m, e⟩ := cut_ex as.length lo hi
  exact slice_read ha.1 fun p H' s h => q p H' n m s ⟨by rw [← e V.ref as rfl]; exact h, ((ha.2.same s).drop n).take m⟩
theorem len_cut {α : Type} (l : List α) (n m : Nat) : ((l.drop n).take m).length ≤ l.length := by
  rw [List.length_take, List.length_drop]
  omega
theorem mem_cut {α : Type} {l : List α} {n m : Nat} {x : α} (h : x ∈ (l.drop n).take m) : x ∈ l := List.mem_of_mem_drop (List.mem_of_mem_take h)
theorem one_row {H : Hp} {t r : Addr} {row : List Int} (h : IntsAt H r row) (nt : H t = none) : RowsAt (upd H t (.tup [.ref r])) t [r] [row] := ⟨upd_same, ⟨(same_new nt) _ _ h, True.intro⟩⟩
theorem sz_1 (v : V) : [v].length ≤ sizeLine := by
  show 1 ≤ sizeLine
  decide
theorem noPart {σ : L2.St} {H : Hp} {Q : Option Int → Hp → Prop} (h : Q none H) : tNoPart σ H Q := h
end HL

set_option pp.maxSteps 3000
namespace HL
open PySem PySem.Spec PyProof.Rows L2
open C8 (pss_cut)
abbrev G30 : Int := 1000000000000000000000000000000
section
variable {P : Program} {w : World} {K : PySem.W.Frag} {mg : Str → Option Value} {base : Heap}
theorem okRow_all {ll : List (List Int)} (h : flaw ll = none) : ∀ r ∈ ll, okRow (width ll) r = true := fun r hr => by
  have h0 := flaw_ok h
  unfold flaw at h
  rw [if_pos ⟨h0.1, h0.2.1, h0.2.2.1, h0.2.2.2⟩] at h
  unfold flawIn at h
  have e : ll.findIdx? (fun r => !okRow (width ll) r) = none := by
    cases z : ll.findIdx? (fun r => !okRow (width ll) r) with
    | none => rfl
    | some i => rw [z] at h; cases h
  have := List.findIdx?_eq_none_iff.mp e r hr
  cases z : okRow (width ll) r with
  | true => rfl
  | false => rw [z] at this; cases this
/-! ### a lot that is one -/
def spLook0 : Sp := fun vs H Q _ => ∃ (p : Addr) (as : List Addr) (ll : List (List Int)), vs = [.ref p] ∧ RowsAt H p as ll ∧ flaw ll = none ∧ ∀ H', Same H H' → Q .non H'
theorem ok_look0 {f : Addr} {fd : FuncData} (F : Fun K "look_lot" "look_lot" sLook f fd) (B : Bl mg) (M : Consts mg) (CH : Cal P w K mg base CX0 1 "is_hold" ["hold", "goods"] spIsHold) : FnOk P w K mg base CX0 2 f fd ["lot"] spLook0 := by
  obtain ⟨t5, m5⟩ := M.kinds
  obtain ⟨t3, m3⟩ := M.goods
  obtain ⟨fH, fdH, GH, gH, kH, bH⟩ := CH.ex
  refine F.ok scLk (fun vs H Q E h => ?_) (fun cdv A outer s H vs Q E hr h => ?_)
  · obtain ⟨p, as, ll, rfl, _⟩ := h
    rfl
  · obtain ⟨p, as, ll, rfl, hL, ef, q0⟩ := h
    have hok := flaw_ok ef
    have hrows := flaw_rows ef
    have hlen := hL.2.len
    refine ⟨_, pss_cons (ps_if (PW.pt (pw_or (pt_not (pt_chain op_le op_le pe_int (pe_callB call_len_seq (by rfl) B.len PySem.boot_len (pa_cons (pv 0) pa_nil)) (pe_glob (v := .int 5) rfl m5 ⟨_, rfl⟩)))
          (pw_or1 (pt_not (pt_chain op_le op_le pe_int (pe_callB call_len_seq (by rfl) B.len PySem.boot_len (pa_cons (pe_ix ix_tup (pv 0) pe_int (fun _ _ => rfl)) pa_nil)) (pe_glob (v := .int 3) rfl m3 ⟨_, rfl⟩)))))) pss_never pss_nil)
      (pss_one (ps_for PassesOwn.never rfl (pi_enumT (by rfl) B.enumerate (pa_cons (pv 0) pa_nil)) (pg_tup rfl (pgs_cons (pg_name (i := 1) scLk.nd rfl (.inl rfl)) (pgs_cons (pg_name (i := 2) scLk.nd rfl (.inl rfl)) pgs_nil)))
        (pss_one (ps_if (pt_not (pt_val (pe_call GH hr (by rfl) gH kH bH .nil pass0 (pa_cons (pv 2) (pa_cons (pe_callB call_len_seq (by rfl) B.len PySem.boot_len (pa_cons (pe_ix ix_tup (pv 0) pe_int (fun _ _ => rfl)) pa_nil)) pa_nil))))) pss_never pss_nil)))), ?_⟩
    have sP : SqT K H p (as.map V.ref) := SqT.of hL.1
    obtain ⟨a0, ha0, hh0, hw⟩ := hL.2.head hok.1
    have at0 : atI (as.map V.ref) 0 = some (.ref a0) := atI_nat (j := 0) (by rw [List.getElem?_map, ha0]; rfl)
    refine ⟨.ref p, rfl, p, _, rfl, .inr sP, 1, _, rfl, rfl, _, rfl, chainI ?_⟩
    rw [List.length_map, hlen, decide_eq_true (show (1 : Int) ≤ (ll.length : Nat) ∧ ((ll.length : Nat) : Int) ≤ 5 by omega)]
    refine iteF ?_
    refine ⟨.ref p, rfl, p, _, 0, .ref a0, rfl, rfl, sP, at0, a0, _, rfl, .inr (SqT.of hh0), 1, _, rfl, rfl, _, rfl, chainI ?_⟩
    rw [List.length_map, hw, decide_eq_true (show (1 : Int) ≤ (width ll : Nat) ∧ ((width ll : Nat) : Int) ≤ 3 by omega)]
    refine iteF ?_
    refine ⟨.ref p, rfl, p, _, rfl, sP, ?_⟩
    refine ⟨fun i m σ H' => i + m = as.length ∧ Same H H' ∧ (∃ y1 y2, σ = [some (.ref p), y1, y2]), ⟨as.length, by omega, Same.refl _, ⟨none, none, rfl⟩⟩, fun i m σ H' hW => ?_⟩
    obtain ⟨em, sm, ⟨y1, y2, rfl⟩⟩ := hW
    have sP' : SqT K H' p (as.map V.ref) := SqT.of (sm _ _ hL.1)
    by_cases hi : i < as.length
    · have hai : as[i]? = some as[i] := List.getElem?_eq_getElem hi
      obtain ⟨r, hr1, hr2⟩ := hL.2.at hai
      have g1 : (as.map V.ref)[i]? = some (.ref as[i]) := by rw [List.getElem?_map, hai]; rfl
      refine .inr ⟨⟨_, _, sP', g1⟩, fun σ' H2 => Same H H2 ∧ (∃ y1 y2, σ' = [some (.ref p), y1, y2]), fun σ' H2 hN => ⟨m - 1, by omega, by omega, hN⟩, fun x H2 hy => ?_⟩
      obtain ⟨T2, x2, rfl, nT, rfl, f2⟩ := hy
      have ex2 : x2 = .ref as[i] := Option.some.inj ((f2 _ sP').symm.trans g1)
      subst ex2
      have s3 : Same H (upd H' T2 (.tup [.int (i : Nat), .ref as[i]])) := sm.trans (same_new nT)
      refine ⟨T2, _, rfl, SqT.of upd_same, rfl, _, _, rfl, _, _, rfl, rfl, ?_⟩
      refine ⟨.ref as[i], rfl, .ref p, rfl, p, _, 0, .ref a0, rfl, rfl, SqT.of (s3 _ _ hL.1), at0, a0, _, rfl, .inr (SqT.of (s3 _ _ hh0)), as[i], width ll, r, ?_, s3 _ _ hr2, by have := (hrows r (List.mem_of_getElem? hr1)).1; omega, hok.2.2.1, fun H4 s4 => ⟨_, rfl, ?_⟩⟩
      · rw [List.length_map, hw]
        rfl
      · rw [okRow_all ef r (List.mem_of_getElem? hr1)]
        exact iteF ⟨s3.trans s4, ⟨_, _, rfl⟩⟩
    · exact .inl ⟨⟨_, sP', by rw [List.length_map]; omega⟩, q0 H' sm⟩
def spGoods0 : Sp := fun vs H Q _ => ∃ (p : Addr) (as : List Addr) (ll : List (List Int)), vs = [.ref p] ∧ RowsAt H p as ll ∧ flaw ll = none ∧ ∀ H', Same H H' → Q (.int (width ll : Nat)) H'
theorem ok_goods0 {f : Addr} {fd : FuncData} (F : Fun K "goods_of" "goods_of" sGoods f fd) (B : Bl mg) (CL : Cal P w K mg base CX0 2 "look_lot" ["lot"] spLook0) : FnOk P w K mg base CX0 3 f fd ["lot"] spGoods0 := by
  obtain ⟨fL, fdL, GL, gL, kL, bL⟩ := CL.ex
  refine F.ok scGo (fun vs H Q E h => ?_) (fun cdv A outer s H vs Q E hr h => ?_)
  · obtain ⟨p, as, ll, rfl, _⟩ := h
    rfl
  · obtain ⟨p, as, ll, rfl, hL, ef, q0⟩ := h
    refine ⟨_, pss_cons (ps_expr (pe_call GL hr (by rfl) gL kL bL .nil pass0 (pa_cons (pv 0) pa_nil)))
      (pss_one (ps_ret (pe_callB call_len_seq (by rfl) B.len PySem.boot_len (pa_cons (pe_ix ix_tup (pv 0) pe_int (fun _ _ => rfl)) pa_nil)))), ?_⟩
    refine ⟨.ref p, rfl, p, as, ll, rfl, hL, ef, fun H' sm => ?_⟩
    obtain ⟨a0, ha0, hh0, hw⟩ := (hL.same sm).2.head (flaw_ok ef).1
    have at0 : atI (as.map V.ref) 0 = some (.ref a0) := atI_nat (j := 0) (by rw [List.getElem?_map, ha0]; rfl)
    refine ⟨.ref p, rfl, p, _, 0, .ref a0, rfl, rfl, SqT.of (hL.same sm).1, at0, a0, _, rfl, .inr (SqT.of hh0), ?_⟩
    rw [List.length_map, hw]
    exact q0 H' sm
end
end HL

set_option pp.maxSteps 3000
namespace HL
open PySem PySem.Spec PyProof.Rows L2
open C8 (pss_cut)
open LamX (CodeO Tabs TabS TabB ExtN tLam LamS lamS_by lamCx lamEnv codeO_ne)
abbrev sBillInit : Stmt := inClass (topS 3) 0
/-- what is known of a refusal's class whose __init__ stores a word and a field -/
structure Cls2 (K : PySem.W.Frag) (C : Addr) (f : Str) : Prop where
  ox : OexC K C
  noW : PySem.W.findIn K (.ref C) "word" = some none
  noF : PySem.W.findIn K (.ref C) f = some none
abbrev exF (f wd : Str) (v : V) : List (Str × V) := [(f, v), ("word", .str wd)]
def spInit2 (C : Addr) (f wd : Str) : Sp := fun vs H Q _ => ∃ (a : Addr) (v : V), vs = [.ref a, v] ∧ H a = some (exo a C none) ∧
  ∀ dx, H dx = none → dx ≠ a → Q .non (upd (upd (upd H dx (exd dx [("word", .str wd)])) a (exo a C (some dx))) dx (exd dx (exF f wd v)))
theorem scBI : FnScope ["self", "good"] ["self", "good"] (defScope sBillInit) := ⟨rfl, rfl, rfl, by decide +kernel, rfl, by decide +kernel, by decide +kernel⟩
section
variable {P : Program} {w : World} {K : PySem.W.Frag} {mg : Str → Option Value} {base : Heap}
theorem ok_billInit {f : Addr} {fd : FuncData} {k : Nat} {C : Addr} (F : Fun K "__init__" "BadBill.__init__" sBillInit f fd) (T : Cls2 K C "good") : FnOk P w K mg base CX0 (k + 1) f fd ["self", "good"] (spInit2 C "good" "bad bill") := by
  refine F.ok scBI (fun vs H Q E h => ?_) (fun cdv A outer s H vs Q E hr h => ?_)
  · obtain ⟨a, v, rfl, _⟩ := h
    rfl
  · obtain ⟨a, v, rfl, ha, q⟩ := h
    refine ⟨_, pss_cons (ps_ost (pv 0) pe_str) (pss_one (ps_ost (pv 0) (pv 1))), ?_⟩
    refine ⟨.ref a, rfl, a, C, rfl, T.ox, T.noW, .inl ⟨ha, fun dx nd ne => ?_⟩⟩
    refine ⟨v, rfl, .ref a, rfl, a, C, rfl, T.ox, T.noF, .inr ⟨dx, _, upd_same, ?_, (by show 1 ≤ 900; decide), q dx nd ne⟩⟩
    rw [upd_ne ne, upd_same]
/-- the heap behind a refusal that was made -/
theorem xd_same {H : Hp} {a dx : Addr} {o1 o2 o3 o4 o5 : HO} (na : H a = none) (nd : H dx = none) : Same H (upd (del (upd (upd (upd (upd H a o1) dx o2) a o3) dx o4) a) dx o5) := fun b o e => by
  have n1 := ne_of_none e na
  have n2 := ne_of_none e nd
  rw [upd_ne n2, del_ne n1, upd_ne n2, upd_ne n1, upd_ne n2, upd_ne n1]
  exact e
/-- refused with the class at C, field f holding v -/
def Refd (C : Addr) (f wd : Str) (v : V) (H : Hp) (E : XK) : Prop := ∀ H' d, Same H H' → H d = none → H' d = some (.xd (exF f wd v)) → E (.ref C) (some d) H'
theorem Refd.same {C : Addr} {f wd : Str} {v : V} {H H1 : Hp} {E : XK} (h : Refd C f wd v H E) (s : Same H H1) : Refd C f wd v H1 E := fun H' d s' n e => h H' d (s.trans s') (s.free n) e
/-- raise C(v): its reading from what is wanted -/
theorem mk_refd {C : Addr} {f wd : Str} {v : V} {H : Hp} {E : XK} (h : Refd C f wd v H E) : [v].length ≤ 1000 ∧ ∀ a, H a = none → spInit2 C f wd (.ref a :: ([v] ++ [])) (upd H a (exo a C none))
    (fun u H2 => u = .non ∧ ∃ (d : Addr) (fs : List (Str × V)), H2 a = some (exo a C (some d)) ∧ H2 d = some (exd d fs) ∧ H d = none ∧ E (.ref C) (some d) (upd (del H2 a) d (.xd fs))) (fun _ _ _ => False) := by
  refine ⟨(by show 1 ≤ 1000; decide), fun a na => ⟨a, v, rfl, upd_same, fun dx nd ne => ⟨rfl, dx, exF f wd v, ?_, upd_same, ?_, ?_⟩⟩⟩
  · rw [upd_ne (Ne.symm ne), upd_same]
  · rw [upd_ne ne] at nd
    exact nd
  · rw [upd_ne ne] at nd
    exact h _ dx (xd_same na nd) nd upd_same
/-- BadLot as it stands: its class, its __init__ -/
structure BadTxt (P : Program) (w : World) (K : PySem.W.Frag) (mg : Str → Option Value) (base : Heap) (x : Str) (C : Addr) (f wd : Str) : Prop where
  c2 : Cls2 K C f
  gC : mg x = some (.ref C)
  ini : ∃ (fI : Addr) (fd : FuncData), PySem.W.findIn K (.ref C) "__init__" = some (some (.ref fI)) ∧ PySem.W.typeIn K (.ref fI) = some (.type "function") ∧
    FnOk P w K mg base CX0 1 fI fd ["self", f] (spInit2 C f wd) ∧ Binds K fd ["self", f] []
theorem scPick : FnScope ["_law_feed_here", "_law_row"] ["_law_feed_here", "_law_row"] (defScope sPick) := ⟨rfl, rfl, rfl, by decide +kernel, rfl, by decide +kernel, by decide +kernel⟩
def spPick : Sp := fun vs H Q _ => ∃ (f c r : Addr) (xs : List V), vs = [.ref f, .ref r] ∧ H r = some (.lst xs) ∧ r ≠ f ∧ 1 ≤ xs.length ∧ xs.length ≤ 1000 ∧ FeedAt c H f ∧
  ∀ v H', v ∈ xs → Kp f H H' → FeedAt c H' f → Q v H'
theorem ok_pick {f : Addr} {fd : FuncData} (F : Fun K "_law_pick" "_law_pick" sPick f fd) (ml : mg "len" = none) (CD : Cal P w K mg base CX0 1 "_law_draw" ["_law_feed_here", "_law_many"] spDraw) :
    FnOk P w K mg base CX0 2 f fd ["_law_feed_here", "_law_row"] spPick := by
  obtain ⟨fD, fdD, GD, gD, kD, bD⟩ := CD.ex
  refine F.ok scPick (fun vs H Q E h => ?_) (fun cdv A outer s H vs Q E hr h => ?_)
  · obtain ⟨a, c, r, xs, rfl, _⟩ := h
    rfl
  · obtain ⟨a, c, r, xs, rfl, hx, hne, l1, l2, Fd, q⟩ := h
    refine ⟨_, pss_one (ps_ret (pe_ix ix_list (pv 1) (pe_call GD hr (by rfl) gD kD bD .nil pass0 (pa_cons (pv 0) (pa_cons (pe_callB call_len_seq (by rfl) ml PySem.boot_len (pa_cons (pv 1) pa_nil)) pa_nil))) (fun _ _ => rfl))), ?_⟩
    refine ⟨.ref r, rfl, .ref a, rfl, .ref r, rfl, r, xs, rfl, .inl (SqL.of hx), a, c, (xs.length : Nat), rfl, by omega, by omega, Fd, fun d H' d0 d1 kp F' => ?_⟩
    obtain ⟨z, hz, hm, _⟩ := atI_mem d0 d1
    exact ⟨r, xs, d, z, rfl, rfl, SqL.of (kp _ _ hne hx), hz, q z H' hm kp F'⟩
end
/-- refused with the class at C, its word wd -/
def RefW (C : Addr) (wd : Str) (H : Hp) (E : XK) : Prop := ∀ H' d fs, Same H H' → H' d = some (.xd fs) → fs.lookup (Str.ofString "word") = some (V.str wd) → E (.ref C) (some d) H'
theorem RefW.same {C : Addr} {wd : Str} {H H1 : Hp} {E : XK} (h : RefW C wd H E) (s : Same H H1) : RefW C wd H1 E := fun H' d fs s' e l => h H' d fs (s.trans s') e l
theorem RefW.refd {C : Addr} {f wd : Str} {v : V} {H : Hp} {E : XK} (h : RefW C wd H E) (hf : (("word" : Str) == f) = false) : Refd C f wd v H E := fun H' d s nd e => h H' d _ s e (by
  show List.lookup (Str.ofString "word") [(f, v), (Str.ofString "word", V.str wd)] = _
  rw [List.lookup_cons, hf]
  exact List.lookup_cons_self)
/-- f(k = v, ..) -/
theorem pe_kw0 {X : Cx} {CX : CXT} {k : Nat} {f : Addr} {fd : FuncData} {ps ks : List Str} {sp : Sp} {E : XK} {x : Str} {p pos : Pos} {kws : List Keyword} {tk : TA} {g : List Value → List Value → List Value} {gV : List V → List V → List V}
    (F : FnOk X.prog X.w X.K X.mg X.base CX k f fd ps sp) (hr : Room k X.A) (hg : Gl X x) (hm : X.mg x = some (.ref f)) (hk : PySem.W.keepIn X.K (.ref f) = true) (hb : KBn X.K fd ps 0 ks g gV) (hx : Passes CX X E) (hkw : PK X kws tk)
    (hall : (backToKw pos (keywordEach kws X.env)).all (·.1.isSome) = true := by rfl)
    (hks : (backToKw pos (keywordEach kws X.env)).filterMap (·.1) = ks := by rfl) (hdb : (x == ("__debug__" : Str)) = false := by decide)
    (hpl : ((backTo pos (starEach [] X.env)).any (·.1) || (backToKw pos (keywordEach kws X.env)).any (·.1.isNone)) = false := by rfl) : PE X (.Call (.Name x p) [] kws pos) (tCallN 0 ks.length sp gV E tNil tk) := by
  refine ⟨fun pins s σ H Q I h => wpAny_Call_Name_kw (ld_glob I hg hm ?_ hdb)⟩
  refine PySem.W.callWith_KW0 (h₀ := X.base) I.ok.mod.kin hk hall (thn (hkw.run pos pins s σ H _ I h) fun ws s2 ⟨zs, H2, I2, rz, l1, l2, q2⟩ => ⟨I2.kIn, ?_⟩) hpl
  rw [hks]
  exact run_fnN (us := []) (vs := []) F hr hb hx I2 .nil rz rfl l2 q2
theorem FeedAt.ext {c : Addr} {H H' : Hp} {f : Addr} (F : FeedAt c H f) (e : ExtN H H') : FeedAt c H' f := by
  obtain ⟨ns, i, b, m, n, h1, h2, h3⟩ := F
  exact ⟨ns, i, b, m, n, e _ _ h1 (fun ps z => by cases z), e _ _ h2 (fun ps z => by cases z), h3⟩
theorem IntsAt.ext {H H' : Hp} {p : Addr} {ns : List Int} (h : IntsAt H p ns) (e : ExtN H H') : IntsAt H' p ns := e _ _ h (fun ps z => by cases z)
theorem tabs_kp {T : List (Addr × Str)} {H H' : Hp} {f c : Addr} (t : Tabs T H) (F : FeedAt c H f) (k : Kp f H H') : Tabs T H' := fun p hp => by
  obtain ⟨ps, h1, h2, h3⟩ := t p hp
  obtain ⟨ns, i, b, m, n, g1, _⟩ := F
  refine ⟨ps, k _ _ (ne_of h1 g1 (fun z => by cases z)) h1, h2, fun pos cv hc => ?_⟩
  obtain ⟨c0, e1, e2⟩ := h3 pos cv hc
  refine ⟨c0, e1, k _ _ (ne_of e2 g1 (fun z => ?_)) e2⟩
  unfold CodeO at z
  cases z
theorem tabs_list {T : List (Addr × Str)} {H : Hp} {l : Addr} {xs ys : List V} (t : Tabs T H) (h : H l = some (.lst xs)) : Tabs T (upd H l (.lst ys)) := fun p hp => by
  obtain ⟨ps, h1, h2, h3⟩ := t p hp
  refine ⟨ps, by rw [upd_ne (ne_of h1 h (fun z => by cases z))]; exact h1, h2, fun pos cv hc => ?_⟩
  obtain ⟨c0, e1, e2⟩ := h3 pos cv hc
  refine ⟨c0, e1, ?_⟩
  rw [upd_ne (ne_of e2 h (fun z => ?_))]
  · exact e2
  · unfold CodeO at z
    cases z
/-- the slots of a def are as many as its names -/
theorem takes_len {X : Cx} {W : WX} (tk : Takes X W) : Takes X (fun cls d σ H => σ.length = X.N.length → W cls d σ H) := fun u s' ⟨a, B, sI, pins, σ, H, cls, d, e, I, nb, up, sky, na, os, ag, w⟩ =>
  tk u s' ⟨a, B, sI, pins, σ, H, cls, d, e, I, nb, up, sky, na, os, ag, w I.len⟩
theorem sz_2 (v w : V) : [v, w].length ≤ sizeLine := by
  show 2 ≤ sizeLine
  decide
end HL

set_option pp.maxSteps 3000
namespace HL
open PySem PySem.Spec PyProof.Rows L2
open C8 (pss_cut)
def IT (K : PySem.W.Frag) (H : Hp) (a : Addr) (ns : List Int) : Prop := SqT K H a (ns.map V.int)
theorem sqT_same {K : PySem.W.Frag} {H H' : Hp} {a : Addr} {xs : List V} (h : SqT K H a xs) (s : Same H H') : SqT K H' a xs := by
  rcases h with (h | ⟨o, h⟩) | h
  · exact .inl (.inl (s _ _ h))
  · exact .inl (.inr ⟨o, s _ _ h⟩)
  · exact .inr h
theorem IT.same {K : PySem.W.Frag} {H H' : Hp} {a : Addr} {ns : List Int} (h : IT K H a ns) (s : Same H H') : IT K H' a ns := sqT_same h s
theorem IntsAt.it {K : PySem.W.Frag} {H : Hp} {a : Addr} {ns : List Int} (h : IntsAt H a ns) : IT K H a ns := SqT.of h
/-! ### where a row is wrong -/
def inB (n : Int) : Bool := decide (0 ≤ n ∧ n < G30)
def wrong (m : Int) (row : List Int) : Option Int := if (row.length : Int) = m then (row.findIdx? fun n => !inB n).map fun i => (i : Int) else some (-1)
def wrongV (m : Int) (row : List Int) : V := match wrong m row with
  | none => .non
  | some k => .int k
theorem wrong_at {m : Int} {row : List Int} {i : Nat} {n : Int} (hl : (row.length : Int) = m) (h : row[i]? = some n) (hb : inB n = false) (ha : ∀ (j : Nat) (z : Int), j < i → row[j]? = some z → inB z = true) : wrong m row = some (i : Int) := by
  unfold wrong
  rw [if_pos hl]
  obtain ⟨hi, he⟩ := List.getElem?_eq_some_iff.mp h
  have e : row.findIdx? (fun n => !inB n) = some i := by
    refine List.findIdx?_eq_some_iff_getElem.mpr ⟨hi, by rw [he, hb]; rfl, fun j hj => ?_⟩
    rw [ha j row[j] hj (List.getElem?_eq_getElem (by omega))]
    decide
  rw [e]
  rfl
theorem wrong_none {m : Int} {row : List Int} (hl : (row.length : Int) = m) (ha : ∀ (j : Nat) (z : Int), j < row.length → row[j]? = some z → inB z = true) : wrong m row = none := by
  unfold wrong
  rw [if_pos hl]
  have e : row.findIdx? (fun n => !inB n) = none := by
    refine List.findIdx?_eq_none_iff.mpr fun r hr => ?_
    obtain ⟨j, hj, hjr⟩ := List.mem_iff_getElem.mp hr
    rw [ha j r hj (by rw [List.getElem?_eq_getElem hj, hjr])]
    rfl
  rw [e]
  rfl
theorem wrong_len {m : Int} {row : List Int} (hl : ¬ (row.length : Int) = m) : wrong m row = some (-1) := by
  unfold wrong
  rw [if_neg hl]
theorem wrong_ok {m : Int} {row : List Int} (h : wrong m row = none) : (row.length : Int) = m ∧ ∀ n ∈ row, 0 ≤ n ∧ n < G30 := by
  unfold wrong at h
  by_cases c : (row.length : Int) = m
  · rw [if_pos c] at h
    refine ⟨c, fun n hn => ?_⟩
    have e : row.findIdx? (fun n => !inB n) = none := by
      cases z : row.findIdx? (fun n => !inB n) with
      | none => rfl
      | some i => rw [z] at h; cases h
    have := List.findIdx?_eq_none_iff.mp e n hn
    have b : inB n = true := by
      cases z : inB n with
      | true => rfl
      | false => rw [z] at this; cases this
    exact of_decide_eq_true b
  · rw [if_neg c] at h
    cases h
/-- 0 <= x < y as a test -/
theorem chainL {i j L : Int} {H : Hp} {Q : Bool → Hp → Prop} (h : Q (decide (i ≤ L ∧ L < j)) H) :
    if decide (i ≤ L) = true then (∃ a b : Int, V.int L = V.int a ∧ V.int j = V.int b ∧ ∃ k, V.bl (decide (a < b)) = V.bl k ∧ Q k H) else ∃ k, V.bl false = V.bl k ∧ Q k H := by
  by_cases c : i ≤ L
  · rw [if_pos (decide_eq_true c)]
    refine ⟨L, j, rfl, rfl, _, rfl, ?_⟩
    rw [show decide (L < j) = decide (i ≤ L ∧ L < j) by simp [c]]
    exact h
  · rw [if_neg (fun z => c (of_decide_eq_true z))]
    refine ⟨false, rfl, ?_⟩
    rw [show false = decide (i ≤ L ∧ L < j) by simp [c]]
    exact h
theorem scFirst : FnScope ["row", "many", "place", "number"] ["row", "many"] (defScope sFirst) := ⟨rfl, rfl, rfl, by decide +kernel, rfl, by decide +kernel, by decide +kernel⟩
theorem scLB : FnScope ["lot", "bill", "wrong"] ["lot", "bill"] (defScope sLookBill) := ⟨rfl, rfl, rfl, by decide +kernel, rfl, by decide +kernel, by decide +kernel⟩
section
variable {P : Program} {w : World} {K : PySem.W.Frag} {mg : Str → Option Value} {base : Heap}
def spFirst (K : PySem.W.Frag) : Sp := fun vs H Q _ => ∃ (a : Addr) (m : Int) (row : List Int), vs = [.ref a, .int m] ∧ IT K H a row ∧ row.length ≤ 100 ∧ ∀ H', Same H H' → Q (wrongV m row) H'
theorem ok_first {f : Addr} {fd : FuncData} {k : Nat} (F : Fun K "first_wrong" "first_wrong" sFirst f fd) (B : Bl mg) (mG : ∃ t, mg "GREAT" = some (.int G30 t)) : FnOk P w K mg base CX0 (k + 1) f fd ["row", "many"] (spFirst K) := by
  obtain ⟨tG, mG⟩ := mG
  refine F.ok scFirst (fun vs H Q E h => ?_) (fun cdv A outer s H vs Q E hr h => ?_)
  · obtain ⟨a, m, row, rfl, _⟩ := h
    rfl
  · obtain ⟨a, m, row, rfl, hA, hz, q⟩ := h
    refine ⟨_, pss_cons (ps_if (pt_cmpR op_ne (pe_callB call_len_seq (by rfl) B.len PySem.boot_len (pa_cons (pv 0) pa_nil)) (pv 1) (nomark _)) (pss_one (ps_ret (pe_un un_neg pe_int))) pss_nil)
      (pss_cons (ps_for PassesOwn.never rfl (pi_enumT (by rfl) B.enumerate (pa_cons (pv 0) pa_nil)) (pg_tup rfl (pgs_cons (pg_name (i := 2) scFirst.nd rfl (.inl rfl)) (pgs_cons (pg_name (i := 3) scFirst.nd rfl (.inl rfl)) pgs_nil)))
        (pss_one (ps_if (pt_not (pt_chain op_le op_lt pe_int (pv 3) (pe_glob (v := .int G30) rfl mG ⟨_, rfl⟩))) (pss_one (ps_ret (pv 2))) pss_nil)))
      (pss_one (ps_ret pe_non))), ?_⟩
    refine ⟨.ref a, rfl, a, _, rfl, .inr hA, .int m, rfl, rfl, _, rfl, ?_⟩
    rw [List.length_map]
    refine ite2 (fun c1 => ?_) (fun c1 => ?_)
    · have hl : ¬ (row.length : Int) = m := fun z => by rw [z, decide_eq_true rfl] at c1; cases c1
      have q1 := q H (Same.refl _)
      unfold wrongV at q1
      rw [wrong_len hl] at q1
      exact ⟨1, rfl, q1⟩
    · have hl : (row.length : Int) = m := by
        by_cases z : (row.length : Int) = m
        · exact z
        · refine absurd ?_ c1
          rw [decide_eq_false (fun y => z (V.int.inj y))]
          rfl
      refine ⟨.ref a, rfl, a, _, rfl, hA, ?_⟩
      refine ⟨fun i mm σ H' => i + mm = row.length ∧ Same H H' ∧ (∃ y2 y3, σ = [some (.ref a), some (.int m), y2, y3]) ∧ ∀ (j : Nat) (z : Int), j < i → row[j]? = some z → inB z = true,
        ⟨row.length, by omega, Same.refl _, ⟨none, none, rfl⟩, fun j r' hj => absurd hj (Nat.not_lt_zero j)⟩, fun i mm σ H' hW => ?_⟩
      obtain ⟨em, sm, ⟨y2, y3, rfl⟩, ih⟩ := hW
      have sA : SqT K H' a (row.map V.int) := sqT_same hA sm
      by_cases hi : i < row.length
      · have hri : row[i]? = some row[i] := List.getElem?_eq_getElem hi
        have g1 : (row.map V.int)[i]? = some (.int row[i]) := by rw [List.getElem?_map, hri]; rfl
        refine .inr ⟨⟨_, _, sA, g1⟩, fun σ' H2 => Same H H2 ∧ (∃ y2 y3, σ' = [some (.ref a), some (.int m), y2, y3]) ∧ inB row[i] = true, fun σ' H2 hN => ?_, fun x H2 hy => ?_⟩
        · obtain ⟨s2, hσ, hk⟩ := hN
          refine ⟨mm - 1, by omega, by omega, s2, hσ, fun j z hj hjr => ?_⟩
          by_cases hji : j < i
          · exact ih j z hji hjr
          · have e : j = i := by omega
            subst e
            rw [hri] at hjr
            cases hjr
            exact hk
        · obtain ⟨T2, x2, rfl, nT, rfl, f2⟩ := hy
          have ex2 : x2 = .int row[i] := Option.some.inj ((f2 _ sA).symm.trans g1)
          subst ex2
          have s3 : Same H (upd H' T2 (.tup [.int (i : Nat), .int row[i]])) := sm.trans (same_new nT)
          refine ⟨T2, _, rfl, SqT.of upd_same, rfl, _, _, rfl, _, _, rfl, rfl, ?_⟩
          refine ⟨.int row[i], rfl, 0, row[i], rfl, rfl, _, rfl, chainL ?_⟩
          refine ite2 (fun d1 => ?_) (fun d1 => ?_)
          · have hb : inB row[i] = false := by
              unfold inB
              cases e : decide (0 ≤ row[i] ∧ row[i] < G30) with
              | false => rfl
              | true => rw [e] at d1; cases d1
            have q1 := q _ s3
            unfold wrongV at q1
            rw [wrong_at hl hri hb ih] at q1
            exact ⟨_, rfl, q1⟩
          · refine ⟨s3, ⟨_, _, rfl⟩, ?_⟩
            unfold inB
            cases e : decide (0 ≤ row[i] ∧ row[i] < G30) with
            | true => rfl
            | false => rw [e] at d1; exact absurd rfl d1
      · refine .inl ⟨⟨_, sA, ?_⟩, ?_⟩
        · rw [List.length_map]
          omega
        · have q1 := q H' sm
          unfold wrongV at q1
          rw [wrong_none hl (fun j z hj => ih j z (by omega))] at q1
          exact q1
def LotB (H : Hp) (p : Addr) (as : List Addr) (ll : List (List Int)) : Prop := RowsAt H p as ll ∧ ll.length ≤ 100 ∧ ∀ r ∈ ll, r.length ≤ 100
theorem LotB.same {H H' : Hp} {p : Addr} {as : List Addr} {ll : List (List Int)} (h : LotB H p as ll) (s : Same H H') : LotB H' p as ll := ⟨h.1.same s, h.2⟩
theorem wrongV_non {m : Int} {row : List Int} : wrongV m row = .non ↔ wrong m row = none := by
  unfold wrongV
  cases wrong m row with
  | none => exact ⟨fun _ => rfl, fun _ => rfl⟩
  | some k => exact ⟨fun z => (by cases z), fun z => (by cases z)⟩
theorem wrongV_some {m : Int} {row : List Int} (h : ¬ wrongV m row = .non) : ∃ k, wrong m row = some k ∧ wrongV m row = .int k := by
  cases e : wrong m row with
  | none => exact absurd (wrongV_non.mpr e) h
  | some k => exact ⟨k, rfl, by unfold wrongV; rw [e]⟩
def spLookBillR (K : PySem.W.Frag) (CB : Addr) : Sp := fun vs H Q E => ∃ (p b : Addr) (as : List Addr) (ll : List (List Int)) (row : List Int), vs = [.ref p, .ref b] ∧ RowsAt H p as ll ∧ flaw ll = none ∧ IntsAt H b row ∧ row.length ≤ 100 ∧
  (wrong (width ll : Nat) row = none → ∀ H', Same H H' → Q .non H') ∧ (wrong (width ll : Nat) row ≠ none → RefW CB "bad bill" H E)
theorem ok_lookBillR {f : Addr} {fd : FuncData} {CB : Addr} (F : Fun K "look_bill" "look_bill" sLookBill f fd) (T : BadTxt P w K mg base "BadBill" CB "good" "bad bill") (CF : Cal P w K mg base CX0 1 "first_wrong" ["row", "many"] (spFirst K)) (CG : Cal P w K mg base CX0 3 "goods_of" ["lot"] spGoods0) : FnOk P w K mg base (L2.CX P w) 4 f fd ["lot", "bill"] (spLookBillR K CB) := by
  obtain ⟨fF, fdF, GF, gF, kF, bF⟩ := CF.ex
  obtain ⟨fG, fdG, GG, gG, kG, bG⟩ := CG.ex
  obtain ⟨fI, fdI, iC, tI, GI, bI⟩ := T.ini
  refine F.okX scLB (fun vs H Q E h => ?_) (fun cdv A outer s H vs Q E hr h => ?_)
  · obtain ⟨p, b, as, ll, row, rfl, _⟩ := h
    rfl
  · obtain ⟨p, b, as, ll, row, rfl, hL, ef, hB, hl, q1, q2⟩ := h
    refine ⟨_, pss_cons (ps_set (i := 2) scLB.nd rfl (.inl rfl) (pe_call GF (hr.mono (by decide)) (by rfl) gF kF bF .nil pass0 (pa_cons (pv 1) (pa_cons (pe_call GG hr (by rfl) gG kG bG .nil pass0 (pa_cons (pv 0) pa_nil)) pa_nil))))
      (pss_one (ps_if (pt_cmpR op_notN (pv 2) pe_non (nomark _)) (pss_one (ps_raise rfl (takes_of rfl rfl rfl rfl) (pmk_oex T.c2.ox iC tI GI (hr.mono (by decide)) bI .nil pass0 (by rfl) T.gC (pa_cons (pv 2) pa_nil)))) pss_nil)), ?_⟩
    refine ⟨.ref b, rfl, .ref p, rfl, p, as, ll, rfl, hL, ef, fun H1 s1 => ?_⟩
    refine ⟨b, (width ll : Nat), row, rfl, (hB.same s1).it, hl, fun H2 s2 => ?_⟩
    have s12 := s1.trans s2
    unfold wrongV
    cases e : wrong (width ll : Nat) row with
    | none => exact ⟨_, rfl, rfl, _, rfl, iteF (q1 e H2 s12)⟩
    | some k => exact ⟨_, rfl, rfl, _, rfl, iteT ⟨_, rfl, mk_refd (((q2 (by rw [e]; simp)).same s12).refd (by decide))⟩⟩
end
theorem wrong_bad {n : Int} {xs : List Int} (h : (xs.length : Int) ≠ n ∨ ∃ z ∈ xs, ¬ (0 ≤ z ∧ z < G30)) : wrong n xs ≠ none := fun e => by
  obtain ⟨e1, e2⟩ := wrong_ok e
  rcases h with h | ⟨z, hz, hn⟩
  · exact h e1
  · exact hn (e2 z hz)
theorem wrong_good {n : Int} {xs : List Int} (hl : (xs.length : Int) = n) (h : ∀ z ∈ xs, 0 ≤ z ∧ z < G30) : wrong n xs = none := wrong_none hl fun j z hj hz => decide_eq_true (h z (List.mem_of_getElem? hz))
end HL

set_option pp.maxSteps 3000
namespace HL
open PySem PySem.Spec PyProof.Rows L2
open C8 (pss_cut)
theorem zipI_at {xs ys : List Int} {i : Nat} {x y : Int} (h1 : xs[i]? = some x) (h2 : ys[i]? = some y) : (xs.zip ys)[i]? = some (x, y) := by
  rw [List.getElem?_zip_eq_some]
  exact ⟨h1, h2⟩
/-! ### slices just so -/
theorem cut_to {xs : List V} {n : Nat} : cutV xs none (some (n : Int)) = xs.take n := by
  unfold cutV
  rw [HT.sIx_none, HT.sIx_nat, List.drop_zero, Nat.sub_zero]
  by_cases h : n ≤ xs.length
  · rw [Nat.min_eq_left h]
  · rw [Nat.min_eq_right (by omega), List.take_length, List.take_of_length_le (by omega)]
theorem cut_from {xs : List V} {n : Nat} : cutV xs (some (n : Int)) none = xs.drop n := by
  unfold cutV
  rw [HT.sIx_none, HT.sIx_nat]
  by_cases h : n ≤ xs.length
  · rw [Nat.min_eq_left h]
    exact List.take_of_length_le (by rw [List.length_drop]; omega)
  · rw [Nat.min_eq_right (by omega), List.drop_eq_nil_of_le (by omega), List.drop_eq_nil_of_le (by omega), List.take_nil]
theorem slice_to {K : PySem.W.Frag} {H : Hp} {a : Addr} {as : List Addr} {ll : List (List Int)} {n : Nat} {Q : VK} (ha : RowsAt H a as ll) (q : ∀ p H', Same H H' → RowsAt H' p (as.take n) (ll.take n) → Q (.ref p) H') : rSlA K (.ref a) none (some (n : Int)) H Q :=
  slice_read ha.1 fun p H' s h => q p H' s ⟨by rw [cut_to, ← List.map_take] at h; exact h, (ha.2.same s).take n⟩
theorem slice_from {K : PySem.W.Frag} {H : Hp} {a : Addr} {as : List Addr} {ll : List (List Int)} {n : Nat} {Q : VK} (ha : RowsAt H a as ll) (q : ∀ p H', Same H H' → RowsAt H' p (as.drop n) (ll.drop n) → Q (.ref p) H') : rSlA K (.ref a) (some (n : Int)) none H Q :=
  slice_read ha.1 fun p H' s h => q p H' s ⟨by rw [cut_from, ← List.map_drop] at h; exact h, (ha.2.same s).drop n⟩
def zeros (n : Nat) : List Int := List.replicate n 0
theorem rep0_read {K : PySem.W.Frag} {H : Hp} {t : Addr} {n : Nat} {Q : VK} (ht : H t = some (.tup [.int 0])) (n1 : 1 ≤ n) (n2 : n ≤ 1000) (q : ∀ p H', Same H H' → IntsAt H' p (zeros n) → Q (.ref p) H') : rRepA K (.ref t) (.int (n : Nat)) H Q := by
  refine ⟨t, (n : Nat), [.int 0], rfl, rfl, SqT.of ht, by decide, by omega, by omega, by decide, fun e => ?_, fun e p np => ?_⟩
  · have : n = 1 := by omega
    subst this
    exact q t H (Same.refl _) ht
  · refine q p _ (same_new np) ?_
    unfold IntsAt
    rw [upd_same, rep_one, Int.toNat_natCast]
    unfold zeros
    rw [List.map_replicate]
theorem zeros_len (n : Nat) : (zeros n).length = n := List.length_replicate
theorem subR_at {xs ys : List Int} {i : Nat} {k : Int} (h1 : i < xs.length) (h2 : i < ys.length) : (subR xs ys k)[i]? = some (xs.getD i 0 - k * ys.getD i 0) := by
  unfold subR
  rw [List.getElem?_map, zipI_at (List.getElem?_eq_getElem h1) (List.getElem?_eq_getElem h2), List.getD_eq_getElem?_getD, List.getElem?_eq_getElem h1, List.getD_eq_getElem?_getD, List.getElem?_eq_getElem h2]
  rfl
theorem subR_times {k : Int} : ∀ {b h : List Int}, subR b (h.map fun z => z * k) 1 = subR b h k
  | [], _ => rfl
  | _ :: _, [] => rfl
  | x :: b, y :: h => by
    rw [List.map_cons, subR_cons, subR_cons, subR_times]
    congr 1
    rw [Int.one_mul, Int.mul_comm]
/-- one turn of a comprehension over a range whose list is told by a function -/
theorem turn_fn {H H4 H5 : Hp} {D : Addr} {xs : List Int} {i : Nat} {v : Int} (nD : H D = none) (hx : xs[i]? = some v) (hz : xs.length ≤ 1000) (s4 : Same H H4) (hD : H4 D = some (.lst ((xs.take i).map V.int))) (s5 : Same H4 H5) :
    ∃ acc, H5 D = some (.lst acc) ∧ acc.length < sizeLine ∧ Same H (upd H5 D (.lst (acc ++ [.int v]))) ∧ upd H5 D (.lst (acc ++ [.int v])) D = some (.lst ((xs.take (i + 1)).map V.int)) := by
  refine ⟨_, s5 _ _ hD, ?_, same_late (s4.trans s5) nD, ?_⟩
  · rw [List.length_map]
    exact small1000 (Nat.le_trans (List.length_take_le' _ _) hz)
  · rw [upd_same, List.take_add_one, hx, List.map_append]
    rfl
theorem atIT {xs : List Int} {i : Nat} (h : i < xs.length) : atI (xs.map V.int) (i : Int) = some (.int (xs.getD i 0)) := atI_nat (by rw [List.getElem?_map, List.getD_eq_getElem?_getD, List.getElem?_eq_getElem h]; rfl)
theorem scTi : FnScope ["_law_row", "_law_many", "_law_number"] ["_law_row", "_law_many"] (defScope sTimes) := ⟨rfl, rfl, rfl, by decide +kernel, rfl, by decide +kernel, by decide +kernel⟩
/-- one more drawn number in a list -/
theorem drawn {H H' H2 : Hp} {a c D : Addr} {ns : List Int} {lim d : Int} (nD : H D = none) (nDf : D ≠ a) (nDc : D ≠ c) (kp : Kp a H H') (hD : H' D = some (.lst (ns.map V.int))) (k2 : Kp a H' H2) (F2 : FeedAt c H2 a) (hz : ns.length ≤ 900) (hb : ∀ n ∈ ns, 0 ≤ n ∧ n < lim) (d0 : 0 ≤ d) (d1 : d < lim) :
    ∃ acc, H2 D = some (.lst acc) ∧ acc.length < sizeLine ∧ Kp a H (upd H2 D (.lst (acc ++ [.int d]))) ∧ FeedAt c (upd H2 D (.lst (acc ++ [.int d]))) a ∧
      ∃ ms : List Int, upd H2 D (.lst (acc ++ [.int d])) D = some (.lst (ms.map V.int)) ∧ ms.length = ns.length + 1 ∧ ∀ n ∈ ms, 0 ≤ n ∧ n < lim := by
  have hD2 := k2 _ _ nDf hD
  refine ⟨_, hD2, ?_, (kp.trans k2).late nD, F2.put nDf nDc, ns ++ [d], ?_, ?_, ?_⟩
  · rw [List.length_map]
    exact small1000 (by omega)
  · rw [upd_same, List.map_append]
    rfl
  · rw [List.length_append]
    rfl
  · intro n hn
    rcases List.mem_append.mp hn with h | h
    · exact hb n h
    · rw [List.mem_singleton.mp h]
      exact ⟨d0, d1⟩
def limW (w : Nat) : Int := if w = 1 then 13 else if w = 2 then 6 else 4
section
variable {P : Program} {w : World} {K : PySem.W.Frag} {mg : Str → Option Value} {base : Heap}
def spTimes : Sp := fun vs H Q _ => ∃ (a : Addr) (xs : List Int) (k : Int), vs = [.ref a, .int k] ∧ IntsAt H a xs ∧ xs.length ≤ 100 ∧ (∀ n ∈ xs, -1000 ≤ n ∧ n ≤ 1000) ∧ ∀ H' p, Same H H' → IntsAt H' p (xs.map fun z => z * k) → Q (.ref p) H'
theorem ok_times {f : Addr} {fd : FuncData} {k : Nat} (F : Fun K "_law_times" "_law_times" sTimes f fd) (B : Bl mg) : FnOk P w K mg base CX0 (k + 1) f fd ["_law_row", "_law_many"] spTimes := by
  refine F.ok scTi (fun vs H Q E h => ?_) (fun cdv A outer s H vs Q E hr h => ?_)
  · obtain ⟨a, xs, k, rfl, _⟩ := h
    rfl
  · obtain ⟨a, xs, k, rfl, ha, hz, hb, q⟩ := h
    refine ⟨_, pss_one (ps_ret (pe_callTy call_tuple_of (by rfl) B.tuple (by decide +kernel) (pa_cons (pe_lc (own := [("_law_number", 2)]) (g := gName 2) (tt := tYes) rfl scTi.nd (pi_tup (pv 0))
        (blkOk_by (own := [("_law_number", 2)]) (N := ["_law_row", "_law_many", "_law_number"]) (sc := defScope sTimes) (by decide +kernel)) (fun _ _ _ _ _ => pg_name (i := 2) scTi.nd rfl (Or.inl rfl)) (fun _ _ _ _ _ => pts_nil)
        (fun _ _ _ _ _ => pe_op op_mul (pv 2) (pv 1))) pa_nil))), ?_⟩
    refine ⟨.ref a, rfl, a, rfl, ⟨_, SqT.of ha⟩, fun D nD => ?_⟩
    refine lc_tup (K := K) (a := a) (xs := xs.map V.int) (fun i H' => Same H H' ∧ H' D = some (.lst (((xs.map fun z => z * k).take i).map V.int))) ⟨same_new nD, upd_same⟩ (fun i H' _ hP => SqT.of (ha.same hP.1)) (fun i x H' hx ⟨sm, hD⟩ => ?_) (fun H' ⟨sm, hD⟩ => ?_)
    · obtain ⟨n, hn, rfl⟩ : ∃ n, xs[i]? = some n ∧ x = V.int n := by
        rw [List.getElem?_map] at hx
        cases e : xs[i]? with
        | none => rw [e] at hx; cases hx
        | some n => rw [e] at hx; exact ⟨n, rfl, (Option.some.inj hx).symm⟩
      have hnb := hb n (List.mem_of_getElem? hn)
      refine ⟨rfl, yes (iteT ?_)⟩
      refine ⟨.int n, rfl, .int k, rfl, n, k, rfl, rfl, .inl ⟨by omega, by omega⟩, ?_⟩
      exact turn_fn (xs := xs.map fun z => z * k) nD (by rw [List.getElem?_map, hn]; rfl) (by rw [List.length_map]; omega) sm hD (Same.refl _)
    · rw [List.length_map, List.take_of_length_le (by rw [List.length_map]; exact Nat.le_refl _)] at hD
      exact ⟨D, _, rfl, .inl ⟨SqL.of hD, fun z nz => q _ z (sm.trans (same_new nz)) upd_same⟩⟩
end
theorem seq_c {v : V} {i : Nat} {B : TS} {D : Ends} {σ : L2.St} {H : Hp} (h : B D (σ.set i (some v)) H) : tSeq (tAsg (tC v) (gName i)) B D σ H := h
theorem seq_e {te : TE} {i : Nat} {B : TS} {D : Ends} {σ : L2.St} {H : Hp} (h : te σ H fun v H1 => B D (σ.set i (some v)) H1) : tSeq (tAsg te (gName i)) B D σ H := h
theorem asg_e {te : TE} {i : Nat} {D : Ends} {σ : L2.St} {H : Hp} (h : te σ H fun v H1 => D.nx (σ.set i (some v)) H1) : tAsg te (gName i) D σ H := h
end HL

set_option pp.maxSteps 3000
namespace HL
open PySem PySem.Spec PyProof.Rows L2
open C8 (pss_cut)
open RZ (pi_zipA ItzT iZipA)
/-! ### wide numbers -/
theorem log_le {i : Int} {a : Nat} (h : -(2 : Int) ^ a ≤ i ∧ i ≤ (2 : Int) ^ a) : i.natAbs.log2 ≤ a := by
  have e : ((2 ^ a : Nat) : Int) = (2 : Int) ^ a := Int.natCast_pow 2 a
  have h1 : i.natAbs ≤ 2 ^ a := by omega
  by_cases c : i.natAbs = 0
  · rw [c]
    exact Nat.zero_le _
  · have h2 : i.natAbs < 2 ^ (a + 1) := by
      rw [Nat.pow_succ]
      have := Nat.two_pow_pos a
      omega
    have := (Nat.log2_lt c).mpr h2
    omega
theorem cmulW {i j : Int} {a b : Nat} (hi : -(2 : Int) ^ a ≤ i ∧ i ≤ (2 : Int) ^ a) (hj : -(2 : Int) ^ b ≤ j ∧ j ≤ (2 : Int) ^ b) (h : a + b < 1000000) : CMulW i j := by
  have := log_le hi
  have := log_le hj
  show i.natAbs.log2 + j.natAbs.log2 < 1000000
  omega
/-- // by a number of either sign, to 9,000 figures of two -/
def CDivX (_ j : Int) : Prop := j ≠ 0 ∧ j.natAbs.log2 < 9000
theorem op_fdivX {X : Cx} : OpR X (binaryOp .FloorDiv) (rI CDivX fun i j => .int (i.fdiv j)) := opI fun _ _ _ _ _ _ _ hc q => floordiv_int hc.1 q (.inl (PyProof.noPylong_of_log2 hc.2))
theorem two_mono {a b : Nat} (h : a ≤ b) : (2 : Int) ^ a ≤ (2 : Int) ^ b := by
  have : (2 : Nat) ^ a ≤ 2 ^ b := Nat.pow_le_pow_right (by decide) h
  have e1 : ((2 ^ a : Nat) : Int) = (2 : Int) ^ a := Int.natCast_pow 2 a
  have e2 : ((2 ^ b : Nat) : Int) = (2 : Int) ^ b := Int.natCast_pow 2 b
  omega
theorem two_pos (a : Nat) : 1 ≤ (2 : Int) ^ a := two_mono (a := 0) (Nat.zero_le _)
def dotR (xs ys : List Int) : List Int := (List.range xs.length).map fun i => xs.getD i 0 * ys.getD i 0
theorem dotR_cons {x y : Int} {xs ys : List Int} : dotR (x :: xs) (y :: ys) = x * y :: dotR xs ys := by
  unfold dotR
  rw [List.length_cons, List.range_succ_eq_map, List.map_cons, List.map_map]
  rfl
theorem dotR_eq : ∀ {xs ys : List Int}, xs.length = ys.length → (dotR xs ys).sum = dotI xs ys
  | [], [], _ => rfl
  | x :: xs, y :: ys, h => by rw [dotR_cons, dotI_cons, List.sum_cons, dotR_eq (by simpa using h)]
  | [], _ :: _, h => by simp at h
  | _ :: _, [], h => by simp at h
/-- numbers that may be multiplied with any others -/
def Bnd (xs : List Int) : Prop := ∀ n ∈ xs, -1000000 ≤ n ∧ n ≤ 1000000
theorem scUn : FnScope ["place", "many"] ["place", "many"] (defScope sUnit) := ⟨rfl, rfl, rfl, by decide +kernel, rfl, by decide +kernel, by decide +kernel⟩
theorem scWe : FnScope ["row", "other", "number", "weight"] ["row", "other"] (defScope sWeigh) := ⟨rfl, rfl, rfl, by decide +kernel, rfl, by decide +kernel, by decide +kernel⟩
theorem scGreat : FnScope ["_law_feed_here", "_law_size"] ["_law_feed_here"] (defScope sGreat) := ⟨rfl, rfl, rfl, by decide +kernel, rfl, by decide +kernel, by decide +kernel⟩
theorem scLe : FnScope ["row", "other", "times", "number", "taken"] ["row", "other", "times"] (defScope sLess) := ⟨rfl, rfl, rfl, by decide +kernel, rfl, by decide +kernel, by decide +kernel⟩
theorem getD_at {r : List Int} {g : Nat} (h : g < r.length) : r[g]? = some (r.getD g 0) := by
  rw [List.getElem?_eq_getElem h, List.getD_eq_getElem?_getD, List.getElem?_eq_getElem h]
  rfl
/-- how much of a good counts of hampers hold -/
def packI (ll : List (List Int)) (cs : List Int) (g : Nat) : Int := ((cs.zip ll).map fun q => q.1 * q.2.getD g 0).sum
def packR (ll : List (List Int)) (cs : List Int) (g : Nat) : List Int := (List.range ll.length).map fun k => (ll.getD k []).getD g 0 * cs.getD k 0
theorem packR_eq : ∀ {ll : List (List Int)} {cs : List Int} {g : Nat}, cs.length = ll.length → (packR ll cs g).sum = packI ll cs g
  | [], [], _, _ => rfl
  | r :: ll, c :: cs, g, h => by
    have e : packR (r :: ll) (c :: cs) g = r.getD g 0 * c :: packR ll cs g := by
      unfold packR
      rw [List.length_cons, List.range_succ_eq_map, List.map_cons, List.map_map]
      rfl
    have e2 : packI (r :: ll) (c :: cs) g = c * r.getD g 0 + packI ll cs g := by
      unfold packI
      rw [List.zip_cons_cons, List.map_cons, List.sum_cons]
    rw [e, e2, List.sum_cons, packR_eq (by simpa using h), Int.mul_comm]
  | [], _ :: _, _, h => by simp at h
  | _ :: _, [], _, h => by simp at h
/-- whether a row bars a bill as prices -/
def unI (g n : Nat) : List Int := (zeros g ++ [1]) ++ zeros (n - g - 1)
theorem repN_read {K : PySem.W.Frag} {H : Hp} {t : Addr} {n : Nat} {m : Int} {Q : VK} (ht : H t = some (.tup [.int 0])) (hm : m = (n : Int)) (n2 : n ≤ 1000) (q : ∀ p H', Same H H' → IntsAt H' p (zeros n) → Q (.ref p) H') : rRepN K (.ref t) (.int m) H Q := by
  subst hm
  by_cases c : n = 0
  · subst c
    exact .inl ⟨t, _, rfl, rfl, SqT.of ht, by decide, fun p np => q p _ (same_new np) upd_same⟩
  · exact .inr (rep0_read ht (by omega) n2 q)
section
variable {P : Program} {w : World} {K : PySem.W.Frag} {mg : Str → Option Value} {base : Heap}
/-- a row, as a tuple or as a list -/
def TL (H : Hp) (b : Addr) (ys : List Int) : Prop := IntsAt H b ys ∨ H b = some (.lst (ys.map V.int))
theorem TL.same {H H' : Hp} {b : Addr} {ys : List Int} (h : TL H b ys) (s : Same H H') : TL H' b ys := h.imp (fun z => z.same s) (fun z => s _ _ z)
def spWeigh : Sp := fun vs H Q _ => ∃ (a b : Addr) (xs ys : List Int) (ka kb : Nat), vs = [.ref a, .ref b] ∧ IntsAt H a xs ∧ TL H b ys ∧ xs.length = ys.length ∧ xs.length ≤ 100 ∧ Ent (2 ^ ka) xs ∧ Ent (2 ^ kb) ys ∧ ka + kb < 1000000 ∧ ∀ H', Same H H' → Q (.int (dotI xs ys)) H'
theorem ok_weigh {f : Addr} {fd : FuncData} {k : Nat} (F : Fun K "weighed" "weighed" sWeigh f fd) (B : Bl mg) (mz : mg "zip" = none) : FnOk P w K mg base CX0 (k + 1) f fd ["row", "other"] spWeigh := by
  refine F.ok scWe (fun vs H Q E h => ?_) (fun cdv A outer s H vs Q E hr h => ?_)
  · obtain ⟨a, b, xs, ys, ka, kb, rfl, _⟩ := h
    rfl
  · obtain ⟨a, b, xs, ys, ka, kb, rfl, ha, hb, hl, hz, ea, eb, hab, q⟩ := h
    refine ⟨_, (pss_one (ps_ret (pe_callB (cr_sum rfl) (by rfl) B.sum (by decide +kernel) (pa_cons (pe_lc (own := [("number", 2), ("weight", 3)]) (g := gTup K 2 (gCons (gName 2) (gCons (gName 3) gNil))) (tt := tYes) rfl scWe.nd (pi_zipM (by rfl) mz (pa_cons (pv 0) (pa_cons (pv 1) pa_nil)))
        (blkOk_by (own := [("number", 2), ("weight", 3)]) (N := ["row", "other", "number", "weight"]) (sc := defScope sWeigh) (by decide +kernel)) (fun _ _ _ _ _ => (pg_tup rfl (pgs_cons (pg_name (i := 2) scWe.nd rfl (Or.inl rfl)) (pgs_cons (pg_name (i := 3) scWe.nd rfl (Or.inl rfl)) pgs_nil)))) (fun _ _ _ _ _ => pts_nil)
        (fun _ _ _ _ _ => (pe_op op_mulW (pv 2) (pv 3)))) pa_nil)))), ?_⟩
    rcases hb with hb | hb
    · refine ⟨.ref a, rfl, .ref b, rfl, a, b, _, _, rfl, .inr ⟨SqT.of ha, SqT.of hb, fun D nD => ?_⟩⟩
      refine ⟨fun i m H' => i + m = xs.length ∧ Same H H' ∧ H' D = some (.lst ((((xs.zip ys).take i).map fun q => q.1 * q.2).map V.int)), ⟨xs.length, by omega, same_new nD, upd_same⟩, fun i m H' hW => ?_⟩
      obtain ⟨em, sm, hD⟩ := hW
      have sA : SqT K H' a (xs.map V.int) := SqT.of (ha.same sm)
      have sB : SqT K H' b (ys.map V.int) := SqT.of (hb.same sm)
      by_cases hi : i < xs.length
      · have hx : xs[i]? = some (xs[i]'hi) := List.getElem?_eq_getElem hi
        have hiy : i < ys.length := by omega
        have hy : ys[i]? = some (ys[i]'hiy) := List.getElem?_eq_getElem hiy
        have hz2 : (xs.zip ys)[i]? = some (xs[i]'hi, ys[i]'hiy) := zipI_at hx hy
        have g1 : (xs.map V.int)[i]? = some (.int (xs[i]'hi)) := by rw [List.getElem?_map, hx]; rfl
        have g2 : (ys.map V.int)[i]? = some (.int (ys[i]'hiy)) := by rw [List.getElem?_map, hy]; rfl
        have cm : CMulW (xs[i]'hi) (ys[i]'hiy) := cmulW (ea _ (List.getElem_mem hi)) (eb _ (List.getElem_mem hiy)) hab
        refine .inr ⟨⟨_, _, _, _, sA, sB, g1, g2⟩, fun H2 => Same H H2 ∧ H2 D = some (.lst ((((xs.zip ys).take (i + 1)).map fun q => q.1 * q.2).map V.int)), fun H2 hN => ⟨m - 1, by omega, by omega, hN⟩, fun x H2 hyy => ?_⟩
        obtain ⟨T, x1, x2, rfl, nT, rfl, f1, f2⟩ := hyy
        have ex1 := Option.some.inj ((f1 _ sA).symm.trans g1)
        have ex2 := Option.some.inj ((f2 _ sB).symm.trans g2)
        subst ex1 ex2
        have sT := same_new (o := .tup [V.int (xs[i]'hi), V.int (ys[i]'hiy)]) nT
        refine ⟨T, _, rfl, SqT.of upd_same, rfl, _, _, rfl, _, _, rfl, rfl, rfl, yes (iteT ?_)⟩
        refine ⟨_, rfl, _, rfl, _, _, rfl, rfl, cm, _, sT _ _ hD, ?_, same_late (sm.trans sT) nD, ?_⟩
        · rw [List.length_map, List.length_map]
          exact small1000 (Nat.le_trans (List.length_take_le _ _) (by omega))
        · rw [upd_same, List.take_add_one, hz2, List.map_append, List.map_append]
          rfl
      · refine .inl ⟨⟨_, _, sA, sB, .inl ?_⟩, ?_⟩
        · rw [List.length_map]
          omega
        · have e : (xs.zip ys).take i = xs.zip ys := List.take_of_length_le (by rw [List.length_zip]; omega)
          rw [e] at hD
          exact ⟨D, _, rfl, SqL.of hD, q _ sm⟩
    · refine ⟨.ref a, rfl, .ref b, rfl, a, b, _, _, rfl, .inl ⟨SqT.of ha, SqL.of hb, fun D nD => ?_⟩⟩
      refine ⟨fun i m H' => i + m = xs.length ∧ Same H H' ∧ H' D = some (.lst ((((xs.zip ys).take i).map fun q => q.1 * q.2).map V.int)), ⟨xs.length, by omega, same_new nD, upd_same⟩, fun i m H' hW => ?_⟩
      obtain ⟨em, sm, hD⟩ := hW
      have sA : SqT K H' a (xs.map V.int) := SqT.of (ha.same sm)
      have sB : SqL K H' b (ys.map V.int) := SqL.of (sm _ _ hb)
      by_cases hi : i < xs.length
      · have hx : xs[i]? = some (xs[i]'hi) := List.getElem?_eq_getElem hi
        have hiy : i < ys.length := by omega
        have hy : ys[i]? = some (ys[i]'hiy) := List.getElem?_eq_getElem hiy
        have hz2 : (xs.zip ys)[i]? = some (xs[i]'hi, ys[i]'hiy) := zipI_at hx hy
        have g1 : (xs.map V.int)[i]? = some (.int (xs[i]'hi)) := by rw [List.getElem?_map, hx]; rfl
        have g2 : (ys.map V.int)[i]? = some (.int (ys[i]'hiy)) := by rw [List.getElem?_map, hy]; rfl
        have cm : CMulW (xs[i]'hi) (ys[i]'hiy) := cmulW (ea _ (List.getElem_mem hi)) (eb _ (List.getElem_mem hiy)) hab
        refine .inr ⟨⟨_, _, _, _, ⟨sA, g1⟩, sB, g2⟩, fun H2 => Same H H2 ∧ H2 D = some (.lst ((((xs.zip ys).take (i + 1)).map fun q => q.1 * q.2).map V.int)), fun H2 hN => ⟨m - 1, by omega, by omega, hN⟩, fun x H2 hyy => ?_⟩
        obtain ⟨T, x1, x2, rfl, nT, rfl, f1, f2⟩ := hyy
        have ex1 := Option.some.inj ((f1 _ sA).symm.trans g1)
        have ex2 := Option.some.inj ((f2 _ sB).symm.trans g2)
        subst ex1 ex2
        have sT := same_new (o := .tup [V.int (xs[i]'hi), V.int (ys[i]'hiy)]) nT
        refine ⟨T, _, rfl, SqT.of upd_same, rfl, _, _, rfl, _, _, rfl, rfl, rfl, yes (iteT ?_)⟩
        refine ⟨_, rfl, _, rfl, _, _, rfl, rfl, cm, _, sT _ _ hD, ?_, same_late (sm.trans sT) nD, ?_⟩
        · rw [List.length_map, List.length_map]
          exact small1000 (Nat.le_trans (List.length_take_le _ _) (by omega))
        · rw [upd_same, List.take_add_one, hz2, List.map_append, List.map_append]
          rfl
      · refine .inl ⟨⟨_, _, sA, sB, ?_⟩, ?_⟩
        · rw [List.length_map, List.length_map]
          omega
        · have e : (xs.zip ys).take i = xs.zip ys := List.take_of_length_le (by rw [List.length_zip]; omega)
          rw [e] at hD
          exact ⟨D, _, rfl, SqL.of hD, q _ sm⟩
def spLess : Sp := fun vs H Q _ => ∃ (a b : Addr) (xs ys : List Int) (k : Int) (ka kb : Nat), vs = [.ref a, .ref b, .int k] ∧ IntsAt H a xs ∧ IntsAt H b ys ∧ xs.length = ys.length ∧ xs.length ≤ 100 ∧ (-(2 : Int) ^ ka ≤ k ∧ k ≤ (2 : Int) ^ ka) ∧ Ent (2 ^ kb) ys ∧ ka + kb < 1000000 ∧ ∀ H' p, Same H H' → IntsAt H' p (subR xs ys k) → Q (.ref p) H'
theorem ok_less {f : Addr} {fd : FuncData} {k : Nat} {dvs : List V} (F : FunD K "less" "less" (defArgs sLess) (defBody sLess) (defScope sLess) dvs [] f fd) (B : Bl mg) (mz : mg "zip" = none) : FnOk P w K mg base CX0 (k + 1) f fd ["row", "other", "times"] spLess := by
  refine F.ok scLe (fun vs H Q E h => ?_) (fun cdv A outer s H vs Q E hr h => ?_)
  · obtain ⟨a, b, xs, ys, k, ka, kb, rfl, _⟩ := h
    rfl
  · obtain ⟨a, b, xs, ys, k, ka, kb, rfl, hA, hB, hl, hz, k1, k2, kk, q⟩ := h
    refine ⟨_, pss_one (ps_ret (pe_callTy call_tuple_of (by rfl) B.tuple (by decide +kernel) (pa_cons (pe_lc (own := [("number", 3), ("taken", 4)]) (g := gTup K 2 (gCons (gName 3) (gCons (gName 4) gNil))) (tt := tYes) rfl scLe.nd (pi_zipA (by rfl) mz (pa_cons (pv 0) (pa_cons (pv 1) pa_nil)))
        (blkOk_by (own := [("number", 3), ("taken", 4)]) (N := ["row", "other", "times", "number", "taken"]) (sc := defScope sLess) (by decide +kernel)) (fun _ _ _ _ _ => (pg_tup rfl (pgs_cons (pg_name (i := 3) scLe.nd rfl (Or.inl rfl)) (pgs_cons (pg_name (i := 4) scLe.nd rfl (Or.inl rfl)) pgs_nil)))) (fun _ _ _ _ _ => pts_nil)
        (fun _ _ _ _ _ => (pe_op op_sub (pv 3) (pe_op op_mulW (pv 2) (pv 4))))) pa_nil))), ?_⟩
    refine ⟨.ref a, rfl, .ref b, rfl, a, b, _, _, rfl, .inr ⟨SqT.of hA, SqT.of hB, fun D nD => ?_⟩⟩
    refine ⟨fun i m H' => i + m = xs.length ∧ Same H H' ∧ H' D = some (.lst ((((xs.zip ys).take i).map fun q => q.1 - k * q.2).map V.int)), ⟨xs.length, by omega, same_new nD, upd_same⟩, fun i m H' hW => ?_⟩
    obtain ⟨em, sm, hD⟩ := hW
    have sA : SqT K H' a (xs.map V.int) := SqT.of (hA.same sm)
    have sB : SqT K H' b (ys.map V.int) := SqT.of (hB.same sm)
    by_cases hi : i < xs.length
    · have hx : xs[i]? = some (xs[i]'hi) := List.getElem?_eq_getElem hi
      have hy : ys[i]? = some (ys[i]'(by omega)) := List.getElem?_eq_getElem (by omega)
      have g1 : (xs.map V.int)[i]? = some (.int (xs[i]'hi)) := by rw [List.getElem?_map, hx]; rfl
      have g2 : (ys.map V.int)[i]? = some (.int (ys[i]'(by omega))) := by rw [List.getElem?_map, hy]; rfl
      refine .inr ⟨⟨_, _, _, _, sA, sB, g1, g2⟩, fun H2 => Same H H2 ∧ H2 D = some (.lst ((((xs.zip ys).take (i + 1)).map fun q => q.1 - k * q.2).map V.int)), fun H2 hN => ⟨m - 1, by omega, by omega, hN⟩, fun x H2 hyy => ?_⟩
      obtain ⟨T, x1, x2, rfl, nT, rfl, f1, f2⟩ := hyy
      have ex1 := Option.some.inj ((f1 _ sA).symm.trans g1)
      have ex2 := Option.some.inj ((f2 _ sB).symm.trans g2)
      subst ex1 ex2
      have sT := same_new (o := .tup [V.int (xs[i]'hi), V.int (ys[i]'(by omega))]) nT
      refine ⟨T, _, rfl, SqT.of upd_same, rfl, _, _, rfl, _, _, rfl, rfl, rfl, yes (iteT ?_)⟩
      refine ⟨_, rfl, .int k, rfl, _, rfl, k, _, rfl, rfl, cmulW k1 (k2 _ (List.getElem_mem (show i < ys.length by omega))) kk, _, _, rfl, rfl, _, sT _ _ hD, ?_, same_late (sm.trans sT) nD, ?_⟩
      · rw [List.length_map, List.length_map]
        exact small1000 (Nat.le_trans (List.length_take_le _ _) (by omega))
      · rw [upd_same, List.take_add_one, zipI_at hx hy, List.map_append, List.map_append]
        rfl
    · refine .inl ⟨⟨_, _, sA, sB, .inl ?_⟩, ?_⟩
      · rw [List.length_map]
        omega
      · have e : (xs.zip ys).take i = xs.zip ys := List.take_of_length_le (by rw [List.length_zip]; omega)
        rw [e] at hD
        exact ⟨D, _, rfl, .inl ⟨SqL.of hD, fun t nt => q _ t (sm.trans (same_new nt)) upd_same⟩⟩
def spUnit : Sp := fun vs H Q _ => ∃ (g n : Nat), vs = [.int (g : Int), .int (n : Int)] ∧ g < n ∧ n ≤ 100 ∧ ∀ H' p, Same H H' → IntsAt H' p (unI g n) → Q (.ref p) H'
theorem ok_unit {f : Addr} {fd : FuncData} {k : Nat} (F : Fun K "unit" "unit" sUnit f fd) : FnOk P w K mg base CX0 (k + 1) f fd ["place", "many"] spUnit := by
  refine F.ok scUn (fun vs H Q E h => ?_) (fun cdv A outer s H vs Q E hr h => ?_)
  · obtain ⟨g, n, rfl, _⟩ := h
    rfl
  · obtain ⟨g, n, rfl, hg, hn, q⟩ := h
    refine ⟨_, (pss_one (ps_ret (pe_op op_catA (pe_op op_catA (pe_op op_repN (pe_tup (pa_cons pe_int pa_nil)) (pv 0)) (pe_tup (pa_cons pe_int pa_nil))) (pe_op op_repN (pe_tup (pa_cons pe_int pa_nil)) (pe_op op_sub (pe_op op_sub (pv 1) (pv 0)) pe_int))))), ?_⟩
    refine ⟨sz_1 _, fun t1 nt1 => ⟨.int (g : Int), rfl, repN_read upd_same rfl (by omega) fun z1 H1 s1 hz1 => ?_⟩⟩
    have st1 := same_new (o := .tup [.int 0]) nt1
    refine ⟨sz_1 _, fun t2 nt2 => ?_⟩
    have st2 := same_new (o := .tup [.int 1]) nt2
    refine cat_ints (ys := [1]) (hz1.same st2) (show IntsAt _ t2 [1] from upd_same) (by rw [zeros_len, List.length_singleton]; omega) fun z2 H2 s2 hz2 => ?_
    refine ⟨sz_1 _, fun t3 nt3 => ⟨.int (n : Int), rfl, .int (g : Int), rfl, _, _, rfl, rfl, _, 1, rfl, rfl, repN_read (n := n - g - 1) upd_same (by omega) (by omega) fun z3 H3 s3 hz3 => ?_⟩⟩
    have st3 := same_new (o := .tup [.int 0]) nt3
    refine cat_ints ((hz2.same st3).same s3) hz3 (by rw [List.length_append, zeros_len, zeros_len, List.length_singleton]; omega) fun z4 H4 s4 hz4 => ?_
    exact q H4 z4 (st1.trans (s1.trans (st2.trans (s2.trans (st3.trans (s3.trans s4)))))) hz4
end
def goodsI (ll : List (List Int)) (cs : List Int) : List Int := (List.range (width ll)).map fun g => packI ll cs g
section
variable {P : Program} {w : World} {K : PySem.W.Frag} {mg : Str → Option Value} {base : Heap}
def spGreat : Sp := fun vs H Q _ => ∃ (f c : Addr), vs = [.ref f] ∧ FeedAt c H f ∧ ∀ d H', 0 ≤ d → d < 100000000000000000000000000000 → Kp f H H' → FeedAt c H' f → Q (.int d) H'
theorem ok_great {f : Addr} {fd : FuncData} (F : Fun K "_law_great" "_law_great" sGreat f fd) (CD : Cal P w K mg base CX0 1 "_law_draw" ["_law_feed_here", "_law_many"] spDraw) (CP : Cal P w K mg base CX0 2 "_law_pick" ["_law_feed_here", "_law_row"] spPick) :
    FnOk P w K mg base CX0 3 f fd ["_law_feed_here"] spGreat := by
  obtain ⟨fD, fdD, GD, gD, kD, bD⟩ := CD.ex
  obtain ⟨fP, fdP, GP, gP, kP, bP⟩ := CP.ex
  refine F.ok scGreat (fun vs H Q E h => ?_) (fun cdv A outer s H vs Q E hr h => ?_)
  · obtain ⟨a, c, rfl, _⟩ := h
    rfl
  · obtain ⟨a, c, rfl, Fd, q⟩ := h
    refine ⟨_, pss_cons (ps_set (i := 1) scGreat.nd rfl (.inl rfl) (pe_call GP hr (by rfl) gP kP bP .nil pass0 (pa_cons (pv 0) (pa_cons (pe_lst (pa_cons pe_int (pa_cons pe_int (pa_cons (pe_op op_pow pe_int pe_int) (pa_cons (pe_op op_pow pe_int pe_int) (pa_cons (pe_op op_pow pe_int pe_int) pa_nil)))))) pa_nil))))
      (pss_one (ps_ret (pe_call GD (hr.mono (by decide)) (by rfl) gD kD bD .nil pass0 (pa_cons (pv 0) (pa_cons (pv 1) pa_nil))))), ?_⟩
    refine ⟨.ref a, rfl, 10, 6, rfl, rfl, ⟨by decide, by decide, by decide⟩, 10, 15, rfl, rfl, ⟨by decide, by decide, by decide⟩, 10, 29, rfl, rfl, ⟨by decide, by decide, by decide⟩, (by show 5 ≤ sizeLine; decide), fun l nl => ?_⟩
    refine ⟨a, c, l, _, rfl, upd_same, Fd.ne nl, by decide, by decide, Fd.new nl, fun v H2 hv k2 F2 => ?_⟩
    obtain ⟨z, rfl, z1, z2⟩ : ∃ z : Int, v = .int z ∧ 1 ≤ z ∧ z ≤ 100000000000000000000000000000 := by
      simp only [List.mem_cons, List.mem_nil_iff, or_false] at hv
      rcases hv with h | h | h | h | h <;> exact ⟨_, h, by decide, by decide⟩
    refine ⟨.ref a, rfl, .int z, rfl, a, c, z, rfl, z1, by omega, F2, fun d H3 d0 d1 k3 F3 => q d H3 d0 (by omega) ((Kp.new nl).trans (k2.trans k3)) F3⟩
end
end HL

set_option pp.maxSteps 3000
namespace HL
open PySem PySem.Spec PyProof.Rows L2
open C8 (pss_cut)
open LamX (CodeO Tabs TabS TabB ExtN tLam LamS lamS_by lamCx lamEnv codeO_ne)
/-! ### what is new; all but tables stays -/
def New (H : Hp) (a : Addr) : Prop := ∀ o, H a = some o → ∃ ps, o = .tbl ps
theorem New.of {H : Hp} {a : Addr} (h : H a = none) : New H a := fun o e => by rw [h] at e; cases e
theorem New.ne {H : Hp} {a b : Addr} {o : HO} (h : New H a) (hb : H b = some o) (n : ∀ ps, o ≠ .tbl ps) : b ≠ a := fun e => by
  rw [e] at hb
  obtain ⟨ps, z⟩ := h _ hb
  exact n ps z
theorem New.back {H H1 : Hp} {a : Addr} (h : New H1 a) (e : ExtN H H1) : New H a := fun o ho => by
  by_cases c : ∃ ps, o = .tbl ps
  · exact c
  · exact h o (e _ _ ho fun ps z => c ⟨ps, z⟩)
theorem ExtN.late {H H' : Hp} {D : Addr} {o : HO} (e : ExtN H H') (n : New H D) : ExtN H (upd H' D o) := fun b x h nt => by
  rw [upd_ne (n.ne h nt)]
  exact e b x h nt
theorem ExtN.of_same {H H' : Hp} (s : Same H H') : ExtN H H' := fun b o h _ => s b o h
theorem RowsAt.ext {H H' : Hp} {p : Addr} {as : List Addr} {ll : List (List Int)} (h : RowsAt H p as ll) (e : ExtN H H') : RowsAt H' p as ll :=
  ⟨e _ _ h.1 (fun ps z => by cases z), h.2.mono fun a xs q => e _ _ q (fun ps z => by cases z)⟩
theorem Rows.ext {H H' : Hp} {as : List Addr} {ll : List (List Int)} (h : Rows H as ll) (e : ExtN H H') : Rows H' as ll := h.mono fun a xs q => e _ _ q (fun ps z => by cases z)
theorem Rows.lput {H : Hp} {D : Addr} {xs ys : List V} {bs : List Addr} {ll : List (List Int)} (R : Rows H bs ll) (hD : H D = some (.lst xs)) : Rows (upd H D (.lst ys)) bs ll := R.mono fun b zs e => by
  rw [upd_ne (ne_of e hD (fun z => by cases z))]
  exact e
theorem IntsAt.lput {H : Hp} {a D : Addr} {ns : List Int} {xs ys : List V} (x : IntsAt H a ns) (hD : H D = some (.lst xs)) : IntsAt (upd H D (.lst ys)) a ns := by
  show upd H D _ a = _
  rw [upd_ne (ne_of x hD (fun z => by cases z))]
  exact x
/-- rows as they are told at their addresses -/
theorem rows_map {H : Hp} : ∀ {as : List Addr} {ll : List (List Int)}, Rows H as ll → as.map (rowF H) = ll
  | [], [], _ => rfl
  | a :: as, r :: ll, ⟨h1, h2⟩ => by rw [List.map_cons, rowF_at h1, rows_map h2]
  | [], _ :: _, h => h.elim
  | _ :: _, [], h => h.elim
theorem map_rows {H H' : Hp} : ∀ {as : List Addr}, (∀ a ∈ as, H' a = some (.tup ((rowF H a).map V.int))) → Rows H' as (as.map (rowF H))
  | [], _ => True.intro
  | a :: as, h => ⟨h a List.mem_cons_self, map_rows fun b hb => h b (List.mem_cons_of_mem _ hb)⟩
theorem rows_each {H : Hp} {as : List Addr} {ll : List (List Int)} (R : Rows H as ll) : ∀ a ∈ as, rowF H a ∈ ll ∧ H a = some (.tup ((rowF H a).map V.int)) := fun a ha => by
  obtain ⟨i, hi⟩ := List.mem_iff_getElem?.mp ha
  obtain ⟨r, h1, h2⟩ := R.at hi
  rw [rowF_at h2]
  exact ⟨List.mem_of_getElem? h1, h2⟩
/-- how much is still to be brought down -/
def muL (p : Nat) (H : Hp) (la : Addr) : Nat := match H la with
  | some (.lst vs) => (vs.map fun v => match v with
    | .ref a => (pz p (rowF H a)).natAbs
    | _ => 0).sum
  | _ => 0
theorem muL_eq {p : Nat} {H : Hp} {la : Addr} {aa : List Addr} {at_ : List (List Int)} (h : H la = some (.lst (aa.map V.ref))) (R : Rows H aa at_) : muL p H la = msr p at_ := by
  unfold muL msr
  rw [h, ← rows_map R, List.map_map]
  show ((aa.map V.ref).map _).sum = _
  rw [List.map_map]
  rfl
abbrev NOA : List Str := ["rows", "place", "others", "at_it", "least", "left", "row"]
theorem scOA : FnScope NOA ["rows", "place"] (defScope sOneAt) := ⟨rfl, rfl, rfl, by decide +kernel, rfl, by decide +kernel, by decide +kernel⟩
abbrev qW : Str := ((Str.ofString "with_one_at" : Str) ++ (Str.ofString ".<locals>." : Str)) ++ (Str.ofString "<lambda>" : Str)
theorem big_bits {M : Int} {x : Int} (hM : big M ≤ 2 ^ 8000) (h : -(big M) ≤ x ∧ x ≤ big M) : -(2 : Int) ^ 8000 ≤ x ∧ x ≤ (2 : Int) ^ 8000 := by
  generalize (2 : Int) ^ 8000 = z at *
  omega
theorem two_next : (2 : Int) ^ 8000 + 1 ≤ 2 ^ 8001 := by
  have e : (2 : Int) ^ 8001 = 2 ^ 8000 * 2 := Int.pow_succ 2 8000
  have := two_pos 8000
  omega
section
variable {P : Program} {w : World} {K : PySem.W.Frag} {mg : Str → Option Value} {base : Heap}
def spOneAt (T : List (Addr × Str)) : Sp := fun vs H Q _ => ∃ (l : Addr) (p n : Nat) (as : List Addr) (rows : List (List Int)) (M : Int), vs = [.ref l, .int (p : Int)] ∧ H l = some (.lst (as.map V.ref)) ∧ Rows H as rows ∧ rows.length ≤ 100 ∧ Len n rows ∧ p < n ∧ n ≤ 100 ∧ 1 ≤ M ∧ (∀ r ∈ rows, Ent M r) ∧ (2 ≤ rows.length → big M ≤ 2 ^ 8000) ∧ Tabs T H ∧
  ∀ (H' : Hp) (t la lo : Addr) (aa ao : List Addr) (at_ oth : List (List Int)), ExtN H H' → Tabs T H' → New H la → New H lo → la ≠ lo → H' t = some (.tup [.ref la, .ref lo]) → H' la = some (.lst (aa.map V.ref)) → Rows H' aa at_ → H' lo = some (.lst (ao.map V.ref)) → Rows H' ao oth → OneAt n p M rows at_ oth → Q (.ref t) H'
structure OaI (H : Hp) (T : List (Addr × Str)) (n p : Nat) (M : Int) (rows : List (List Int)) (la lo : Addr) (aa ao : List Addr) (at_ oth : List (List Int)) (H' : Hp) : Prop where
  E : ExtN H H'
  T : Tabs T H'
  na : New H la
  no : New H lo
  ne : la ≠ lo
  A : H' la = some (.lst (aa.map V.ref))
  RA : Rows H' aa at_
  O : H' lo = some (.lst (ao.map V.ref))
  RO : Rows H' ao oth
  W : WInv n p M rows at_ oth
theorem isNz_iff {p : Nat} {r : List Int} : isNz p r = true ↔ pz p r ≠ 0 := ⟨fun h => of_decide_eq_true h, fun h => decide_eq_true h⟩
theorem isZ_iff {p : Nat} {r : List Int} : (!isNz p r) = true ↔ pz p r = 0 := by
  unfold isNz
  by_cases c : pz p r = 0
  · simp [c]
  · simp [c]
theorem refAt {as : List Addr} {i : Nat} {x : V} (hx : (as.map V.ref)[i]? = some x) : ∃ c, as[i]? = some c ∧ x = V.ref c := by
  rw [List.getElem?_map] at hx
  cases e : as[i]? with
  | none => rw [e] at hx; cases hx
  | some c => rw [e] at hx; exact ⟨c, rfl, (Option.some.inj hx).symm⟩
def CalLess (P : Program) (w : World) (K : PySem.W.Frag) (mg : Str → Option Value) (base : Heap) : Prop := ∃ (f : Addr) (fd : FuncData), FnOk P w K mg base CX0 1 f fd ["row", "other", "times"] spLess ∧ mg "less" = some (.ref f) ∧ PySem.W.keepIn K (.ref f) = true ∧ L2.Binds K fd ["row", "other", "times"] []
theorem ok_oneAt {f c Pw : Addr} {oc : Value} {od : Option Addr} {kV doc pm : Value} {an : Option Addr} {ct : Value} {osl : Array (Option Value)} {T : List (Addr × Str)} (hTm : (Pw, qW) ∈ T) (hTu : ∀ p ∈ T, p.1 = Pw → p.2 = qW)
    (lk : K.lookup f = some ⟨oc, od, .func (PySem.W.fnOf "with_one_at" "with_one_at" (defArgs sOneAt) (defBody sOneAt) (defScope sOneAt) .none kV doc pm an (.ref c) ct), osl⟩) (hcd : PySem.W.codeIn K (.ref c) "with_one_at" = true) (TB : TabB base mg c Pw)
    (B : Bl mg) (mSo : mg "sorted" = none) (mAb : mg "abs" = none) (CLe : CalLess P w K mg base) :
    FnOk P w K mg base CX0 5 f (PySem.W.fnOf "with_one_at" "with_one_at" (defArgs sOneAt) (defBody sOneAt) (defScope sOneAt) .none kV doc pm an (.ref c) ct) ["rows", "place"] (spOneAt T) := by
  obtain ⟨fLe, fdLe, GLe, gLe, kLe, bLe⟩ := CLe
  refine fn_of lk hcd scOA (fun vs H Q E h => ?_) fun A outer s H vs Q E hr h => ?_
  · obtain ⟨l, p, n, as, rows, M, rfl, _⟩ := h
    rfl
  · obtain ⟨l, p, n, as, rows, M, rfl, hl, hR, hz, hL, hp, hn, hM, hE, hB, hT, q⟩ := h
    have hal := hR.len
    have hpr : ∀ r ∈ rows, p < r.length := fun r hr => by rw [hL r hr]; exact hp
    have build : ∃ t, PSs (cxOf CX0 P w K mg base NOA "with_one_at" (defScope sOneAt) f (.ref c) A outer s H E).nox (defBody sOneAt) t ∧ t { nx := fun _ H' => Q .non H', rt := Q } (L2.start NOA [.ref l, .int (p : Int)]) H := by
      refine ⟨_, (pss_cut (ps_setLc (i := 2) (own := [("row", 6)]) (g := gName 6) (tt := tTest (tOp rEq (tOp (rIxT K) (tVar 6) (tVar 1)) (tC (.int 0)))) (te := tVar 6) rfl scOA.nd rfl rfl (sw_true rfl rfl rfl (by decide +kernel)) (pi_list (pv 0))
        (blkOk_by (own := [("row", 6)]) (N := NOA) (sc := defScope sOneAt) (by decide +kernel)) (fun _ _ _ _ _ => pg_name (i := 6) scOA.nd rfl (Or.inl rfl)) (fun _ _ _ _ _ => pts_one (pt_cmpR op_eq (pe_ix (r := rIxT K) ix_tup (pv 6) (pv 1) (fun _ _ => rfl)) pe_int (nomark _)))
        (fun _ _ _ _ _ => pv 6))
      (pss_cut (ps_setLc (i := 3) (own := [("row", 6)]) (g := gName 6) (tt := tTest (tOp rNe (tOp (rIxT K) (tVar 6) (tVar 1)) (tC (.int 0)))) (te := tVar 6) rfl scOA.nd rfl rfl (sw_true rfl rfl rfl (by decide +kernel)) (pi_list (pv 0))
        (blkOk_by (own := [("row", 6)]) (N := NOA) (sc := defScope sOneAt) (by decide +kernel)) (fun _ _ _ _ _ => pg_name (i := 6) scOA.nd rfl (Or.inl rfl)) (fun _ _ _ _ _ => pts_one (pt_cmpR op_ne (pe_ix (r := rIxT K) ix_tup (pv 6) (pv 1) (fun _ _ => rfl)) pe_int (nomark _)))
        (fun _ _ _ _ _ => pv 6))
      (pss_cons (ps_while PassesOwn.never (pt_cmpR op_gt (pe_callB call_len_seq (by rfl) B.len PySem.boot_len (pa_cons (pv 3) pa_nil)) pe_int (nomark _))
      (pss_cut (ps_set (i := 3) scOA.nd rfl (.inl rfl) (pe_sortKey (T := T) (i := 1) (r := "row") (pl := "place") (by rfl) mSo mAb (pv 3) TB rfl hTm hTu (lamK_by (sd := defScope sOneAt) (by decide +kernel)) rfl rfl (hr.mono (by decide)) (fun _ _ _ _ _ _ => rfl)))
      (pss_cut (ps_set (i := 4) scOA.nd rfl (.inr rfl) (pe_ix ix_list (pv 3) pe_int (fun _ _ => rfl)))
      (pss_cut (ps_setLc (i := 5) (own := [("row", 6)]) (g := gName 6) (tt := tYes) (te := tCall spLess [] E0 (tCons (tVar 6) (tCons (tVar 4) (tCons (tOp (rI CDivX fun i j => .int (i.fdiv j)) (tOp (rIxT K) (tVar 6) (tVar 1)) (tOp (rIxT K) (tVar 4) (tVar 1))) tNil)))) rfl scOA.nd rfl rfl (sw_true rfl rfl rfl (by decide +kernel)) (pi_list (pe_slice sl_list (pv 3) (po_some pe_int) po_none))
        (blkOk_by (own := [("row", 6)]) (N := NOA) (sc := defScope sOneAt) (by decide +kernel)) (fun _ _ _ _ _ => pg_name (i := 6) scOA.nd rfl (Or.inl rfl)) (fun _ _ _ _ _ => pts_nil)
        (fun _ _ _ _ _ => pe_call GLe (hr.mono (by decide)) (by rfl) gLe kLe bLe .nil pass0 (pa_cons (pv 6) (pa_cons (pv 4) (pa_cons (pe_op op_fdivX (pe_ix (r := rIxT K) ix_tup (pv 6) (pv 1) (fun _ _ => rfl)) (pe_ix (r := rIxT K) ix_tup (pv 4) (pv 1) (fun _ _ => rfl))) pa_nil)))))
      (pss_cut (ps_aug (i := 2) scOA.nd rfl (.inl rfl) (pe_lc (own := [("row", 6)]) (g := gName 6) (tt := tTest (tOp rEq (tOp (rIxT K) (tVar 6) (tVar 1)) (tC (.int 0)))) (te := tVar 6) rfl scOA.nd  (pi_list (pv 5))
        (blkOk_by (own := [("row", 6)]) (N := NOA) (sc := defScope sOneAt) (by decide +kernel)) (fun _ _ _ _ _ => pg_name (i := 6) scOA.nd rfl (Or.inl rfl)) (fun _ _ _ _ _ => pts_one (pt_cmpR op_eq (pe_ix (r := rIxT K) ix_tup (pv 6) (pv 1) (fun _ _ => rfl)) pe_int (nomark _)))
        (fun _ _ _ _ _ => pv 6)) iop_ext)
      (pss_one (ps_set (i := 3) scOA.nd rfl (.inl rfl) (pe_op op_cat (pe_lst (pa_cons (pv 4) pa_nil)) (pe_lc (own := [("row", 6)]) (g := gName 6) (tt := tTest (tOp rNe (tOp (rIxT K) (tVar 6) (tVar 1)) (tC (.int 0)))) (te := tVar 6) rfl scOA.nd  (pi_list (pv 5))
        (blkOk_by (own := [("row", 6)]) (N := NOA) (sc := defScope sOneAt) (by decide +kernel)) (fun _ _ _ _ _ => pg_name (i := 6) scOA.nd rfl (Or.inl rfl)) (fun _ _ _ _ _ => pts_one (pt_cmpR op_ne (pe_ix (r := rIxT K) ix_tup (pv 6) (pv 1) (fun _ _ => rfl)) pe_int (nomark _)))
        (fun _ _ _ _ _ => pv 6))))))))))
      (pss_one (ps_ret (pe_tup (pa_cons (pv 3) (pa_cons (pv 2) pa_nil)))))))), ?_⟩
      -- others
      refine ⟨fun σ' H' => ∃ (lo : Addr) (ao : List Addr), σ' = [some (.ref l), some (.int (p : Int)), some (.ref lo), none, none, none, none] ∧ H lo = none ∧ Same H H' ∧ H' lo = some (.lst (ao.map V.ref)) ∧ Rows H' ao (rows.filter fun r => !isNz p r), ?_, ?_⟩
      · refine ⟨.ref l, rfl, l, rfl, ⟨_, SqL.of hl⟩, fun D nD => ?_⟩
        refine lc_list (K := K) (a := l) (xs := as.map V.ref) (fun i H' => Same H H' ∧ ∃ ca : List Addr, H' D = some (.lst (ca.map V.ref)) ∧ Rows H' ca ((rows.take i).filter (fun r => !isNz p r))) ⟨same_new nD, [], upd_same, by rw [List.take_zero]; exact True.intro⟩ (fun i H' _ hP => SqL.of (hP.1 _ _ hl)) (fun i x H' hx ⟨sj, ca, hD, hRc⟩ => ?_) (fun H' ⟨sj, ca, hD, hRc⟩ => ?_)
        · obtain ⟨a, ha, rfl⟩ := refAt hx
          obtain ⟨r, hr1, hr2⟩ := (hR.same sj).at ha
          have hr2 : IntsAt H' a r := hr2
          have hpl := hpr r (List.mem_of_getElem? hr1)
          have etk : (rows.take (i + 1)).filter (fun r => !isNz p r) = (rows.take i).filter (fun r => !isNz p r) ++ (if (fun r => !isNz p r) r = true then [r] else []) := by
            rw [List.take_add_one, hr1, List.filter_append]
            congr 1
            show List.filter _ [r] = _
            rw [List.filter_cons, List.filter_nil]
          rw [etk]
          refine ⟨rfl, .ref a, rfl, .int (p : Int), rfl, a, _, _, _, rfl, rfl, SqT.of hr2, atIT hpl, rfl, _, rfl, ite2 (fun c1 => ?_) (fun c1 => ?_)⟩
          · have hz0 : (fun r => !isNz p r) r = true := (isZ_iff).mpr (V.int.inj (of_decide_eq_true c1))
            rw [if_pos hz0]
            refine ⟨.ref a, rfl, _, hD, ?_, same_late sj nD, ca ++ [a], ?_, ?_⟩
            · rw [List.length_map, hRc.len]
              exact small1000 (Nat.le_trans (List.length_filter_le _ _) (Nat.le_trans (List.length_take_le' _ _) (by first | omega | (rw [List.length_map]; omega))))
            · rw [upd_same, List.map_append]
              rfl
            · exact (hRc.lput hD).app ⟨hr2.lput hD, True.intro⟩
          · have hz0 : ¬ (fun r => !isNz p r) r = true := fun z => c1 (decide_eq_true (congrArg V.int (isZ_iff.mp z)))
            rw [if_neg hz0, List.append_nil]
            exact ⟨sj, ca, hD, hRc⟩
        · rw [List.length_map, hal, List.take_length] at hRc
          exact ⟨D, ca, rfl, nD, sj, hD, hRc⟩
      rintro σ' H1 ⟨lo, ao, rfl, nlo, s1, hlo, hRo⟩
      -- at it
      refine ⟨fun σ' H' => ∃ (la : Addr) (aa : List Addr), σ' = [some (.ref l), some (.int (p : Int)), some (.ref lo), some (.ref la), none, none, none] ∧ OaI H T n p M rows la lo aa ao (rows.filter (isNz p)) (rows.filter fun r => !isNz p r) H', ?_, ?_⟩
      · refine ⟨.ref l, rfl, l, rfl, ⟨_, SqL.of (s1 _ _ hl)⟩, fun D nD => ?_⟩
        refine lc_list (K := K) (a := l) (xs := as.map V.ref) (fun i H' => Same H1 H' ∧ ∃ ca : List Addr, H' D = some (.lst (ca.map V.ref)) ∧ Rows H' ca ((rows.take i).filter (isNz p))) ⟨same_new nD, [], upd_same, by rw [List.take_zero]; exact True.intro⟩ (fun i H' _ hP => SqL.of (hP.1 _ _ (s1 _ _ hl))) (fun i x H' hx ⟨sj, ca, hD, hRc⟩ => ?_) (fun H' ⟨sj, ca, hD, hRc⟩ => ?_)
        · obtain ⟨a, ha, rfl⟩ := refAt hx
          obtain ⟨r, hr1, hr2⟩ := ((hR.same s1).same sj).at ha
          have hr2 : IntsAt H' a r := hr2
          have hpl := hpr r (List.mem_of_getElem? hr1)
          have etk : (rows.take (i + 1)).filter (isNz p) = (rows.take i).filter (isNz p) ++ (if (isNz p) r = true then [r] else []) := by
            rw [List.take_add_one, hr1, List.filter_append]
            congr 1
            show List.filter _ [r] = _
            rw [List.filter_cons, List.filter_nil]
          rw [etk]
          refine ⟨rfl, .ref a, rfl, .int (p : Int), rfl, a, _, _, _, rfl, rfl, SqT.of hr2, atIT hpl, rfl, _, rfl, ite2 (fun c1 => ?_) (fun c1 => ?_)⟩
          · have hz0 : (isNz p) r = true := isNz_iff.mpr fun z => (by rw [show r.getD p 0 = 0 from z, decide_eq_true rfl] at c1; cases c1)
            rw [if_pos hz0]
            refine ⟨.ref a, rfl, _, hD, ?_, same_late sj nD, ca ++ [a], ?_, ?_⟩
            · rw [List.length_map, hRc.len]
              exact small1000 (Nat.le_trans (List.length_filter_le _ _) (Nat.le_trans (List.length_take_le' _ _) (by first | omega | (rw [List.length_map]; omega))))
            · rw [upd_same, List.map_append]
              rfl
            · exact (hRc.lput hD).app ⟨hr2.lput hD, True.intro⟩
          · have hz0 : ¬ (isNz p) r = true := fun z => c1 (by rw [decide_eq_false (fun w => isNz_iff.mp z (V.int.inj w))]; rfl)
            rw [if_neg hz0, List.append_nil]
            exact ⟨sj, ca, hD, hRc⟩
        · rw [List.length_map, hal, List.take_length] at hRc
          exact ⟨D, ca, rfl, ExtN.of_same (s1.trans sj), hT.ext (s1.trans sj), New.of (s1.free nD), New.of nlo, (fun z => by rw [z, hlo] at nD; cases nD), hD, hRc, sj _ _ hlo, hRo.same sj, WInv.start hL hE⟩
      rintro σ' H2 ⟨la, aa, rfl, X2⟩
      refine while_by (fun σ H' => ∃ (la lo : Addr) (aa ao : List Addr) (at_ oth : List (List Int)) (y4 y5 : Option V), σ = [some (.ref l), some (.int (p : Int)), some (.ref lo), some (.ref la), y4, y5, none] ∧ OaI H T n p M rows la lo aa ao at_ oth H')
        (fun σ H' => match σ with | [_, _, _, some (.ref la), _, _, _] => muL p H' la | _ => 0) ⟨la, lo, aa, ao, _, _, none, none, rfl, X2⟩ ?_ ?_
      · clear X2 hRo hlo
        rintro σ H3 ⟨la, lo, aa, ao, at_, oth, y4, y5, rfl, X⟩
        have haal := X.RA.len
        have hcnt := X.W.count
        refine ⟨.ref la, rfl, la, _, rfl, .inl (SqL.of X.A), _, 1, rfl, rfl, _, rfl, ?_⟩
        rw [List.length_map]
        refine ite2 (fun c1 => ?_) (fun c1 => ?_)
        · have h2 : 2 ≤ at_.length := by
            have : (1 : Int) < (aa.length : Nat) := of_decide_eq_true c1
            omega
          have hBig := hB (by omega)
          have hpa : ∀ r ∈ at_, p < r.length := fun r hr => by rw [X.W.rd.len r hr]; exact hp
          have hmu : muL p H3 la = msr p at_ := muL_eq X.A X.RA
          have heach := rows_each X.RA
          have hmap := rows_map X.RA
          -- sorted
          refine ⟨fun σ' H' => ∃ (pp b0 : Addr) (br : List Addr), σ' = [some (.ref l), some (.int (p : Int)), some (.ref lo), some (.ref pp), y4, y5, none] ∧ ExtN H H' ∧ Tabs T H' ∧ H' pp = some (.lst ((b0 :: br).map V.ref)) ∧ New H pp ∧ pp ≠ lo ∧ H' lo = some (.lst (ao.map V.ref)) ∧ Rows H' ao oth ∧ Rows H' (b0 :: br) ((b0 :: br).map (rowF H3)) ∧ ((b0 :: br).map (rowF H3)).Perm at_ ∧ ∀ r ∈ br.map (rowF H3), absI (pz p (rowF H3 b0)) ≤ absI (pz p r), ?_, ?_⟩
          · refine ⟨.ref la, rfl, la, aa, rowF H3, p, rfl, X.A, X.T, rfl, fun a ha => ⟨(heach a ha).2, hpa _ (heach a ha).1⟩, fun H4 bs pp e4 T4 prm srt np => ?_⟩
            have hbl : bs.length = aa.length := prm.length_eq
            match bs, hbl, prm, srt with
            | [], hbl, _, _ =>
              exfalso
              simp at hbl
              omega
            | b0 :: br, hbl, prm, srt =>
              have s5 := same_new (o := .lst ((b0 :: br).map V.ref)) np
              refine ⟨pp, b0, br, rfl, X.E.trans (e4.trans (ExtN.of_same s5)), T4.ext s5, upd_same, (New.of np).back (X.E.trans e4), (fun z => ?_), s5 _ _ (e4 _ _ X.O (fun ps w => by cases w)), (X.RO.ext e4).same s5, map_rows fun a ha => s5 _ _ (e4 _ _ (heach a (prm.mem_iff.mp ha)).2 (fun ps w => by cases w)), by rw [← hmap]; exact prm.map _, fun r hr => ?_⟩
              · have := e4 _ _ X.O (fun ps w => by cases w)
                rw [← z, np] at this
                cases this
              · obtain ⟨a, ha, rfl⟩ := List.mem_map.mp hr
                exact (List.pairwise_cons.mp srt).1 a ha
          rintro σ' H4 ⟨pp, b0, br, rfl, E4, T4, hpp, npp, nplo, hlo4, RO4, RB4, prm, hmin⟩
          -- the least
          refine ⟨fun σ' H' => σ' = [some (.ref l), some (.int (p : Int)), some (.ref lo), some (.ref pp), some (.ref b0), y5, none] ∧ H4 = H', ?_, ?_⟩
          · exact ⟨.ref pp, rfl, pp, _, 0, .ref b0, rfl, rfl, SqL.of hpp, atI_nat (j := 0) rfl, rfl, rfl⟩
          rintro σ' H4' ⟨rfl, rfl⟩
          generalize el0 : rowF H3 b0 = l0 at RB4 prm hmin
          have RB4' : IntsAt H4 b0 l0 ∧ Rows H4 br (br.map (rowF H3)) := by
            rw [List.map_cons, el0] at RB4
            exact RB4
          rw [List.map_cons, el0] at prm
          generalize br.map (rowF H3) = rs at RB4' prm hmin
          clear RB4
          obtain ⟨hb0, RBr⟩ := RB4'
          have ml0 : l0 ∈ at_ := prm.mem_iff.mp List.mem_cons_self
          have mrs : ∀ r ∈ rs, r ∈ at_ := fun r hr => prm.mem_iff.mp (List.mem_cons_of_mem _ hr)
          have hrl : rs.length ≤ 100 := by
            have := prm.length_eq
            rw [List.length_cons] at this
            omega
          have ell := X.W.rd.len l0 ml0
          have enl := X.W.rd.nz l0 ml0
          have eEnt := X.W.rd.ent hM
          -- what is left
          refine ⟨fun σ' H' => ∃ (lf : Addr) (cl : List Addr), σ' = [some (.ref l), some (.int (p : Int)), some (.ref lo), some (.ref pp), some (.ref b0), some (.ref lf), none] ∧ Same H4 H' ∧ H4 lf = none ∧ H' lf = some (.lst (cl.map V.ref)) ∧ Rows H' cl (rs.map (red p l0)), ?_, ?_⟩
          · refine ⟨.ref pp, rfl, 1, rfl, noPart ⟨pp, _, rfl, SqL.of hpp, fun sl nsl => ?_⟩⟩
            have ecut : cutV ((b0 :: br).map V.ref) (some 1) none = br.map V.ref := cut_from (n := 1)
            rw [ecut]
            have ssl := same_new (o := .lst (br.map V.ref)) nsl
            refine ⟨sl, rfl, ⟨_, SqL.of upd_same⟩, fun D nD => ?_⟩
            have nD4 := ssl.free nD
            refine lc_list (K := K) (a := sl) (xs := br.map V.ref) (fun i H' => Same (upd H4 sl (.lst (br.map V.ref))) H' ∧ ∃ ca : List Addr, H' D = some (.lst (ca.map V.ref)) ∧ Rows H' ca ((rs.take i).map (red p l0))) ⟨same_new nD, [], upd_same, by rw [List.take_zero]; exact True.intro⟩ (fun i H' _ hP => SqL.of (hP.1 _ _ upd_same)) (fun i x H' hx ⟨sj, ca, hD, hRc⟩ => ?_) (fun H' ⟨sj, ca, hD, hRc⟩ => ?_)
            · obtain ⟨a, ha, rfl⟩ := refAt hx
              have sj4 := ssl.trans sj
              obtain ⟨r, hr1, hr2⟩ := (RBr.same sj4).at ha
              have hr2 : IntsAt H' a r := hr2
              have mr := mrs r (List.mem_of_getElem? hr1)
              have hrp := hpa r mr
              have erl := X.W.rd.len r mr
              have vr := big_bits hBig ((eEnt r mr).at (by have := first_big hM; omega) p)
              have vl := big_bits hBig ((eEnt l0 ml0).at (by have := first_big hM; omega) p)
              have hq := quot_any enl vr.1 vr.2
              refine ⟨rfl, yes (iteT ?_)⟩
              refine ⟨.ref a, rfl, .ref b0, rfl, .ref a, rfl, .int (p : Int), rfl, a, _, _, _, rfl, rfl, SqT.of hr2, atIT hrp, .ref b0, rfl, .int (p : Int), rfl, b0, _, _, _, rfl, rfl, SqT.of (hb0.same sj4), atIT (by rw [ell]; exact hp), _, _, rfl, rfl, ⟨enl, ?_⟩, nilA ?_⟩
              · have := log_le (a := 8000) vl
                exact Nat.lt_of_le_of_lt this (by decide)
              · refine ⟨a, b0, r, l0, (pz p r).fdiv (pz p l0), 8001, 8000, rfl, hr2, hb0.same sj4, by rw [erl, ell], by rw [erl]; exact hn, ?_, fun x hx => big_bits hBig (eEnt l0 ml0 x hx), by decide, fun H5 z s5 hz5 => ?_⟩
                · have := two_next
                  show -(2 : Int) ^ 8001 ≤ _ ∧ _ ≤ (2 : Int) ^ 8001
                  generalize (2 : Int) ^ 8001 = w1 at *
                  generalize (2 : Int) ^ 8000 = w2 at *
                  omega
                · have hD5 := s5 _ _ hD
                  refine ⟨_, hD5, ?_, same_late (sj.trans s5) nD, ca ++ [z], by rw [upd_same, List.map_append]; rfl, ?_⟩
                  · have h1 := hRc.len
                    rw [List.length_map, List.length_take] at h1
                    rw [List.length_map]
                    exact small1000 (by omega)
                  · rw [List.take_add_one, hr1, List.map_append]
                    exact ((hRc.same s5).lput hD5).app ⟨hz5.lput hD5, True.intro⟩
            · rw [List.length_map, RBr.len, List.take_length] at hRc
              exact ⟨D, ca, rfl, ssl.trans sj, nD4, hD, hRc⟩
          rintro σ' H5 ⟨lf, cl, rfl, s5, nlf, hlf, RL⟩
          have hcl := RL.len
          rw [List.length_map] at hcl
          have hpl' : ∀ r ∈ rs.map (red p l0), p < r.length := fun r hr => by
            obtain ⟨r', hr', rfl⟩ := List.mem_map.mp hr
            rw [red_len ell (X.W.rd.len r' (mrs r' hr'))]
            exact hp
          have E5 : ExtN H H5 := E4.trans (ExtN.of_same s5)
          have hlo5 := s5 _ _ hlo4
          have hoth : oth.length ≤ 100 := by omega
          have nlo5 : lf ≠ lo := fun z => by rw [z, hlo4] at nlf; cases nlf
          -- others
          refine ⟨fun σ' H' => ∃ (aq : List Addr), σ' = [some (.ref l), some (.int (p : Int)), some (.ref lo), some (.ref pp), some (.ref b0), some (.ref lf), none] ∧ ExtN H H' ∧ Tabs T H' ∧ H' lf = some (.lst (cl.map V.ref)) ∧ Rows H' cl (rs.map (red p l0)) ∧ IntsAt H' b0 l0 ∧ H' lo = some (.lst (aq.map V.ref)) ∧ Rows H' aq (oth ++ (rs.map (red p l0)).filter fun r => !isNz p r), ?_, ?_⟩
          · refine ⟨.ref lo, rfl, .ref lf, rfl, lf, rfl, ⟨_, SqL.of hlf⟩, fun D nD => ?_⟩
            refine lc_list (K := K) (a := lf) (xs := cl.map V.ref) (fun i H' => Same H5 H' ∧ ∃ ca : List Addr, H' D = some (.lst (ca.map V.ref)) ∧ Rows H' ca (((rs.map (red p l0)).take i).filter (fun r => !isNz p r))) ⟨same_new nD, [], upd_same, by rw [List.take_zero]; exact True.intro⟩ (fun i H' _ hP => SqL.of (hP.1 _ _ hlf)) (fun i x H' hx ⟨sj, ca, hD, hRc⟩ => ?_) (fun H' ⟨sj, ca, hD, hRc⟩ => ?_)
            · obtain ⟨a, ha, rfl⟩ := refAt hx
              obtain ⟨r, hr1, hr2⟩ := (RL.same sj).at ha
              have hr2 : IntsAt H' a r := hr2
              have hpl := hpl' r (List.mem_of_getElem? hr1)
              have etk : ((rs.map (red p l0)).take (i + 1)).filter (fun r => !isNz p r) = ((rs.map (red p l0)).take i).filter (fun r => !isNz p r) ++ (if (fun r => !isNz p r) r = true then [r] else []) := by
                rw [List.take_add_one, hr1, List.filter_append]
                congr 1
                show List.filter _ [r] = _
                rw [List.filter_cons, List.filter_nil]
              rw [etk]
              refine ⟨rfl, .ref a, rfl, .int (p : Int), rfl, a, _, _, _, rfl, rfl, SqT.of hr2, atIT hpl, rfl, _, rfl, ite2 (fun c1 => ?_) (fun c1 => ?_)⟩
              · have hz0 : (fun r => !isNz p r) r = true := (isZ_iff).mpr (V.int.inj (of_decide_eq_true c1))
                rw [if_pos hz0]
                refine ⟨.ref a, rfl, _, hD, ?_, same_late sj nD, ca ++ [a], ?_, ?_⟩
                · rw [List.length_map, hRc.len]
                  exact small1000 (Nat.le_trans (List.length_filter_le _ _) (Nat.le_trans (List.length_take_le' _ _) (by first | omega | (rw [List.length_map]; omega))))
                · rw [upd_same, List.map_append]
                  rfl
                · exact (hRc.lput hD).app ⟨hr2.lput hD, True.intro⟩
              · have hz0 : ¬ (fun r => !isNz p r) r = true := fun z => c1 (decide_eq_true (congrArg V.int (isZ_iff.mp z)))
                rw [if_neg hz0, List.append_nil]
                exact ⟨sj, ca, hD, hRc⟩
            · rw [List.length_map, RL.len, List.take_length] at hRc
              have hlo6 := sj _ _ hlo5
              have nDl : D ≠ lo := fun z => by rw [z, hlo5] at nD; cases nD
              refine ⟨lo, D, _, _, rfl, rfl, hlo6, hD, ?_, ao ++ ca, rfl, ExtN.late (E5.trans (ExtN.of_same sj)) X.no, tabs_list ((T4.ext s5).ext sj) hlo6, by rw [upd_ne nlo5]; exact sj _ _ hlf, (RL.same sj).lput hlo6, ((hb0.same s5).same sj).lput hlo6, by rw [upd_same, List.map_append], ?_⟩
              · rw [List.length_map, List.length_map, hRc.len]
                have h1 := List.length_filter_le (fun r => !isNz p r) (rs.map (red p l0))
                have h2 := RO4.len
                rw [List.length_map] at h1
                exact sz1000 (by omega)
              · exact (((RO4.same s5).same sj).lput hlo6).app (hRc.lput hlo6)
          rintro σ' H6 ⟨aq, rfl, E6, T6, hlf6, RL6, hb6, hlo6, RQ6⟩
          refine ⟨.ref b0, rfl, sz_1 _, fun t1 nt1 => ?_⟩
          have st := same_new (o := .lst [.ref b0]) nt1
          refine ⟨.ref lf, rfl, lf, rfl, ⟨_, SqL.of (st _ _ hlf6)⟩, fun D nD => ?_⟩
          have nDt : D ≠ t1 := fun z => by rw [z, upd_same] at nD; cases nD
          refine lc_list (K := K) (a := lf) (xs := cl.map V.ref) (fun i H' => Same (upd H6 t1 (.lst [.ref b0])) H' ∧ ∃ ca : List Addr, H' D = some (.lst (ca.map V.ref)) ∧ Rows H' ca (((rs.map (red p l0)).take i).filter (isNz p))) ⟨same_new nD, [], upd_same, by rw [List.take_zero]; exact True.intro⟩ (fun i H' _ hP => SqL.of (hP.1 _ _ (st _ _ hlf6))) (fun i x H' hx ⟨sj, ca, hD, hRc⟩ => ?_) (fun H' ⟨sj, ca, hD, hRc⟩ => ?_)
          · obtain ⟨a, ha, rfl⟩ := refAt hx
            obtain ⟨r, hr1, hr2⟩ := ((RL6.same st).same sj).at ha
            have hr2 : IntsAt H' a r := hr2
            have hpl := hpl' r (List.mem_of_getElem? hr1)
            have etk : ((rs.map (red p l0)).take (i + 1)).filter (isNz p) = ((rs.map (red p l0)).take i).filter (isNz p) ++ (if (isNz p) r = true then [r] else []) := by
              rw [List.take_add_one, hr1, List.filter_append]
              congr 1
              show List.filter _ [r] = _
              rw [List.filter_cons, List.filter_nil]
            rw [etk]
            refine ⟨rfl, .ref a, rfl, .int (p : Int), rfl, a, _, _, _, rfl, rfl, SqT.of hr2, atIT hpl, rfl, _, rfl, ite2 (fun c1 => ?_) (fun c1 => ?_)⟩
            · have hz0 : (isNz p) r = true := isNz_iff.mpr fun z => (by rw [show r.getD p 0 = 0 from z, decide_eq_true rfl] at c1; cases c1)
              rw [if_pos hz0]
              refine ⟨.ref a, rfl, _, hD, ?_, same_late sj nD, ca ++ [a], ?_, ?_⟩
              · rw [List.length_map, hRc.len]
                exact small1000 (Nat.le_trans (List.length_filter_le _ _) (Nat.le_trans (List.length_take_le' _ _) (by first | omega | (rw [List.length_map]; omega))))
              · rw [upd_same, List.map_append]
                rfl
              · exact (hRc.lput hD).app ⟨hr2.lput hD, True.intro⟩
            · have hz0 : ¬ (isNz p) r = true := fun z => c1 (by rw [decide_eq_false (fun w => isNz_iff.mp z (V.int.inj w))]; rfl)
              rw [if_neg hz0, List.append_nil]
              exact ⟨sj, ca, hD, hRc⟩
          · rw [List.length_map, RL6.len, List.take_length] at hRc
            have h7 : H' t1 = some (.lst [.ref b0]) := sj _ _ upd_same
            have hcf := List.length_filter_le (isNz p) (rs.map (red p l0))
            rw [List.length_map] at hcf
            refine ⟨t1, D, _, _, rfl, rfl, h7, hD, ?_, fun z nz => ?_⟩
            · rw [List.length_map, hRc.len]
              exact sz1000 (by show 1 + _ ≤ 1000; omega)
            have s67 := st.trans sj
            have sz := same_new (o := .lst ([V.ref b0] ++ ca.map V.ref)) nz
            have Wn := X.W.step hM hL h2 prm hmin
            have Xn : OaI H T n p M rows z lo (b0 :: ca) aq (l0 :: (rs.map (red p l0)).filter (isNz p)) (oth ++ (rs.map (red p l0)).filter fun r => !isNz p r) (upd H' z (.lst ([V.ref b0] ++ ca.map V.ref))) :=
              ⟨(E6.trans (ExtN.of_same s67)).trans (ExtN.of_same sz), (T6.ext s67).ext sz, (New.of nz).back (E6.trans (ExtN.of_same s67)), X.no, fun w => (by rw [w, s67 _ _ hlo6] at nz; cases nz), upd_same, ⟨sz _ _ (hb6.same s67), hRc.same sz⟩, sz _ _ (s67 _ _ hlo6), (RQ6.same s67).same sz, Wn⟩
            refine ⟨⟨z, lo, b0 :: ca, aq, _, _, _, _, rfl, Xn⟩, ?_⟩
            show muL p _ z < muL p H3 la
            rw [muL_eq Xn.A Xn.RA, hmu]
            exact step_msr X.W.rd h2 prm hmin
        · have h1 : at_.length ≤ 1 := by
            have : ¬ ((1 : Int) < (aa.length : Nat)) := fun z => c1 (decide_eq_true z)
            omega
          refine ⟨.ref la, rfl, .ref lo, rfl, sz_2 _ _, fun t nt => ?_⟩
          have st := same_new (o := .tup [.ref la, .ref lo]) nt
          exact q _ t la lo aa ao at_ oth (X.E.trans (ExtN.of_same st)) (X.T.ext st) X.na X.no X.ne upd_same (st _ _ X.A) (X.RA.same st) (st _ _ X.O) (X.RO.same st) (X.W.done h1)
      · rintro σ H3 Q1 Q2 hQ ⟨v, hv, a, xs, e1, e2, i, j, e3, e4, b, e5, h⟩
        exact ⟨v, hv, a, xs, e1, e2, i, j, e3, e4, b, e5, hQ _ _ h⟩
    obtain ⟨t, h1, h2⟩ := build
    exact ⟨t, h1.nox, h2⟩
end
end HL

set_option pp.maxSteps 3000
namespace HL
open PySem PySem.Spec PyProof.Rows L2
open C8 (pss_cut)
open LamX (CodeO Tabs TabS TabB ExtN tLam LamS lamS_by lamCx lamEnv codeO_ne)
theorem scSt : FnScope ["lot", "rows", "stairs", "good", "at_it", "row"] ["lot"] (defScope sStairs) := ⟨rfl, rfl, rfl, by decide +kernel, rfl, by decide +kernel, by decide +kernel⟩
theorem scWo : FnScope ["stairs", "whole", "good", "hold"] ["stairs"] (defScope sWhole) := ⟨rfl, rfl, rfl, by decide +kernel, rfl, by decide +kernel, by decide +kernel⟩
theorem scLn : FnScope ["number", "by"] ["number"] (defScope sLeastNone) := ⟨rfl, rfl, rfl, by decide +kernel, rfl, by decide +kernel, by decide +kernel⟩
theorem scCt : FnScope ["stairs", "sums", "begun", "row", "stair", "good", "hold"] ["stairs", "sums", "begun"] (defScope sComing) := ⟨rfl, rfl, rfl, by decide +kernel, rfl, by decide +kernel, by decide +kernel⟩
abbrev NSt : List Str := ["lot", "rows", "stairs", "good", "at_it", "row"]
/-! ### stairs as they lie -/
def SrAt (H : Hp) (a : Addr) (q : Nat × List Int) : Prop := ∃ r : Addr, H a = some (.tup [.int (q.1 : Nat), .ref r]) ∧ IntsAt H r q.2
def SrsAt (H : Hp) : List Addr → List (Nat × List Int) → Prop
  | [], [] => True
  | a :: as, q :: qs => SrAt H a q ∧ SrsAt H as qs
  | _, _ => False
theorem SrAt.mono {H H' : Hp} {a : Addr} {q : Nat × List Int} (h : SrAt H a q) (m : ∀ b xs, H b = some (.tup xs) → H' b = some (.tup xs)) : SrAt H' a q := by
  obtain ⟨r, h1, h2⟩ := h
  exact ⟨r, m _ _ h1, m _ _ h2⟩
theorem SrsAt.mono {H H' : Hp} : ∀ {as : List Addr} {qs : List (Nat × List Int)}, SrsAt H as qs → (∀ b xs, H b = some (.tup xs) → H' b = some (.tup xs)) → SrsAt H' as qs
  | [], [], _, _ => True.intro
  | a :: as, q :: qs, ⟨h1, h2⟩, m => ⟨h1.mono m, h2.mono m⟩
  | [], _ :: _, h, _ => h.elim
  | _ :: _, [], h, _ => h.elim
theorem SrsAt.same {H H' : Hp} {as : List Addr} {qs : List (Nat × List Int)} (h : SrsAt H as qs) (s : Same H H') : SrsAt H' as qs := h.mono fun b xs e => s _ _ e
theorem SrsAt.ext {H H' : Hp} {as : List Addr} {qs : List (Nat × List Int)} (h : SrsAt H as qs) (s : ExtN H H') : SrsAt H' as qs := h.mono fun b xs e => s _ _ e (fun ps z => by cases z)
theorem SrsAt.lput {H : Hp} {D : Addr} {xs ys : List V} {as : List Addr} {qs : List (Nat × List Int)} (h : SrsAt H as qs) (hD : H D = some (.lst xs)) : SrsAt (upd H D (.lst ys)) as qs := h.mono fun b zs e => by
  rw [upd_ne (ne_of e hD (fun z => by cases z))]
  exact e
theorem SrsAt.len {H : Hp} : ∀ {as : List Addr} {qs : List (Nat × List Int)}, SrsAt H as qs → as.length = qs.length
  | [], [], _ => rfl
  | a :: as, q :: qs, ⟨_, h⟩ => by rw [List.length_cons, List.length_cons, h.len]
  | [], _ :: _, h => h.elim
  | _ :: _, [], h => h.elim
theorem SrsAt.app {H : Hp} : ∀ {as bs : List Addr} {qs rs : List (Nat × List Int)}, SrsAt H as qs → SrsAt H bs rs → SrsAt H (as ++ bs) (qs ++ rs)
  | [], _, [], _, _, h => h
  | a :: as, _, q :: qs, _, ⟨h1, h2⟩, h => ⟨h1, h2.app h⟩
  | [], _, _ :: _, _, h, _ => h.elim
  | _ :: _, _, [], _, h, _ => h.elim
theorem SrsAt.at {H : Hp} : ∀ {as : List Addr} {qs : List (Nat × List Int)} {i : Nat} {a : Addr}, SrsAt H as qs → as[i]? = some a → ∃ q, qs[i]? = some q ∧ SrAt H a q
  | a :: as, q :: qs, 0, b, ⟨h, _⟩, e => by
    cases Option.some.inj e
    exact ⟨q, rfl, h⟩
  | a :: as, q :: qs, i + 1, b, ⟨_, h⟩, e => by
    obtain ⟨q', h1, h2⟩ := h.at (i := i) (a := b) (by simpa using e)
    exact ⟨q', by simpa using h1, h2⟩
  | [], [], _, _, _, e => by simp at e
  | [], _ :: _, _, _, h, _ => h.elim
  | _ :: _, [], _, _, h, _ => h.elim
/-- what is known of a lot's stairs -/
structure StOk (n : Nat) (lot : List (List Int)) (st : List (Nat × List Int)) : Prop where
  ech : Ech n st
  same : SameLat n lot (st.map (·.2))
  ent : ∀ q ∈ st, Ent (bnd 4) q.2
  few : st.length ≤ 5
/-- x *= y, wide -/
def ipMW : TIp := fun x y H Q => ∃ i j, x = .int i ∧ y = .int j ∧ CMulW i j ∧ Q (.int (i * j)) H
theorem ip_mulW {X : Cx} : PIp X .Mult ipMW := by
  intro pins s σ H x y v u Q I r1 r2 h
  obtain ⟨i, j, e1, e2, hc, q⟩ := h
  subst e1; subst e2
  obtain ⟨t, rfl⟩ := r1
  obtain ⟨t', rfl⟩ := r2
  exact inplaceOp_gives (op := .Mult) (typeIs_int s i t) (typeIs_int s j t') F.noI_int_mul F.fills_int_mul F.slot_int_mul F.entry_int_mul (F.args_int_mul_2 _ _) (gives_int_mul i j t t' hc.ok) trivial ⟨.int _, H, I.tok _, ⟨_, rfl⟩, q⟩
theorem ent_two {k : Nat} {M : Int} {r : List Int} (h : Ent M r) (hM : M ≤ 2 ^ k) : Ent (2 ^ k) r := h.mono hM
theorem lot_ent {ll : List (List Int)} (ef : flaw ll = none) : ∀ r ∈ ll, Ent 8 r := fun r hr x hx => by
  have := (flaw_rows ef r hr).2 x hx
  omega
section
variable {P : Program} {w : World} {K : PySem.W.Frag} {mg : Str → Option Value} {base : Heap}
def spStairs (T : List (Addr × Str)) : Sp := fun vs H Q _ => ∃ (p : Addr) (as : List Addr) (ll : List (List Int)), vs = [.ref p] ∧ RowsAt H p as ll ∧ flaw ll = none ∧ Tabs T H ∧
  ∀ (H' : Hp) (l : Addr) (sa : List Addr) (st : List (Nat × List Int)), ExtN H H' → Tabs T H' → New H l → H' l = some (.lst (sa.map V.ref)) → SrsAt H' sa st → StOk (width ll) ll st → Q (.ref l) H'
theorem ok_stairs {f : Addr} {fd : FuncData} {T : List (Addr × Str)} (F : Fun K "stairs_of" "stairs_of" sStairs f fd) (B : Bl mg) (CG : Cal P w K mg base CX0 3 "goods_of" ["lot"] spGoods0) (CO : Cal P w K mg base CX0 5 "with_one_at" ["rows", "place"] (spOneAt T)) : FnOk P w K mg base CX0 6 f fd ["lot"] (spStairs T) := by
  obtain ⟨fG, fdG, GG, gG, kG, bG⟩ := CG.ex
  obtain ⟨fO, fdO, GO, gO, kO, bO⟩ := CO.ex
  refine F.ok scSt (fun vs H Q E h => ?_) (fun cdv A outer s H vs Q E hr h => ?_)
  · obtain ⟨p, as, ll, rfl, _⟩ := h
    rfl
  · obtain ⟨p, as, ll, rfl, R, ef, hT, q⟩ := h
    have hok := flaw_ok ef
    have hrw := flaw_rows ef
    have hLl : Len (width ll) ll := fun r hr => (hrw r hr).1
    refine ⟨_, (pss_cons (ps_set (i := 1) scSt.nd rfl (.inl rfl) (pe_callTy call_list_of (by rfl) B.list (by decide +kernel) (pa_cons (pv 0) pa_nil)))
      (pss_cons (ps_set (i := 2) scSt.nd rfl (.inl rfl) (pe_lst pa_nil))
      (pss_cons (ps_for PassesOwn.never rfl (pi_range1 (by rfl) B.range (pa_cons (pe_call GG (hr.mono (by decide)) (by rfl) gG kG bG .nil pass0 (pa_cons (pv 0) pa_nil)) pa_nil)) (pg_name (i := 3) scSt.nd rfl (.inr rfl))
      (pss_cons (ps_asg (pe_call GO (hr.mono (by decide)) (by rfl) gO kO bO .nil pass0 (pa_cons (pv 1) (pa_cons (pv 3) pa_nil))) (pg_tup rfl (pgs_cons (pg_name (i := 4) scSt.nd rfl (.inl rfl)) (pgs_cons (pg_name (i := 1) scSt.nd rfl (.inl rfl)) pgs_nil))))
      (pss_one (ps_aug (i := 2) scSt.nd rfl (.inl rfl) (pe_lc (own := [("row", 5)]) (g := gName 5) (tt := tYes) (te := tTup (tCons (tVar 3) (tCons (tVar 5) tNil))) rfl scSt.nd (pi_list (pv 4))
        (blkOk_by (own := [("row", 5)]) (N := NSt) (sc := defScope sStairs) (by decide +kernel)) (fun _ _ _ _ _ => pg_name (i := 5) scSt.nd rfl (Or.inl rfl)) (fun _ _ _ _ _ => pts_nil)
        (fun _ _ _ _ _ => pe_tup (pa_cons (pv 3) (pa_cons (pv 5) pa_nil)))) iop_ext))))
      (pss_one (ps_ret (pv 2)))))), ?_⟩
    refine ⟨.ref p, rfl, p, _, rfl, .inr (SqT.of R.1), fun lr nlr => ?_⟩
    have s1 := same_new (o := .lst (as.map V.ref)) nlr
    refine ⟨Nat.zero_le _, fun ls nls => ?_⟩
    have s2 := same_new (o := .lst []) nls
    have s12 := s1.trans s2
    have nlls : lr ≠ ls := fun z => by rw [← z, upd_same] at nls; cases nls
    refine ⟨.ref p, rfl, p, as, ll, rfl, R.same s12, ef, fun H3 s3 => ⟨(width ll : Nat), rfl, by omega, by omega, ?_⟩⟩
    have s13 := s12.trans s3
    refine for_range (lo := 0) (n := ((width ll : Nat) : Int).toNat) (fun i σ H' => ∃ (lr ls : Addr) (ra sa : List Addr) (rows : List (List Int)) (st : List (Nat × List Int)) (y3 y4 : Option V), σ = [some (.ref p), some (.ref lr), some (.ref ls), y3, y4, none] ∧ ExtN H H' ∧ Tabs T H' ∧ New H ls ∧ lr ≠ ls ∧ H' lr = some (.lst (ra.map V.ref)) ∧ Rows H' ra rows ∧ H' ls = some (.lst (sa.map V.ref)) ∧ SrsAt H' sa st ∧ SInv (width ll) i ll st rows)
      ⟨lr, ls, as, [], ll, [], none, none, rfl, ExtN.of_same s13, hT.ext s13, New.of (s1.free nls), nlls, s3 _ _ (s2 _ _ upd_same), R.2.same s13, s3 _ _ upd_same, True.intro, SInv.start hLl (lot_ent ef)⟩ (fun i σ H4 hi hI => ?_) (fun σ H4 hI => ?_)
    · obtain ⟨lr, ls, ra, sa, rows, st, y3, y4, rfl, E4, T4, n4, ne4, hlr, Rr, hls, Sr, S⟩ := hI
      have hi' : i < width ll := by omega
      have ez : (0 : Int) + (i : Nat) = ((i : Nat) : Int) := by omega
      rw [ez]
      obtain ⟨c, hc0, hc, hE⟩ := S.ent
      have few := S.few
      refine ⟨.ref lr, rfl, .int (i : Int), rfl, lr, i, width ll, ra, rows, bnd c, rfl, hlr, Rr, by omega, S.len, hi', by omega, bnd_pos c, fun r hr => hE r (List.mem_append_right _ hr), fun h2 => ?_, T4, fun H5 t la lo aa ao at_ oth E5 T5 na no ne ht hla Ra hlo Ro O => ?_⟩
      · have h3 : bnd (c + 1) ≤ bnd 4 := bnd_mono (by omega)
        exact Int.le_trans h3 (Int.le_trans bnd_bits (two_mono (by decide)))
      have hlsn : ∀ ps, (HO.lst (sa.map V.ref)) ≠ .tbl ps := fun ps z => by cases z
      have hls5 := E5 _ _ hls hlsn
      refine ⟨t, _, rfl, SqT.of ht, rfl, _, _, rfl, _, _, rfl, rfl, ?_⟩
      have hone := O.one
      have hal := Ra.len
      refine ⟨.ref ls, rfl, .ref la, rfl, la, rfl, ⟨_, SqL.of hla⟩, fun D nD => ?_⟩
      refine lc_list (K := K) (a := la) (xs := aa.map V.ref) (fun j H' => Same H5 H' ∧ ∃ ca : List Addr, H' D = some (.lst (ca.map V.ref)) ∧ SrsAt H' ca ((at_.take j).map fun r => (i, r))) ⟨same_new nD, [], upd_same, by rw [List.take_zero]; exact True.intro⟩ (fun j H' _ hP => SqL.of (hP.1 _ _ hla)) (fun j x H' hx ⟨sj, ca, hD, hRc⟩ => ?_) (fun H' ⟨sj, ca, hD, hRc⟩ => ?_)
      · obtain ⟨a, ha, rfl⟩ := refAt hx
        obtain ⟨r, hr1, hr2⟩ := (Ra.same sj).at ha
        have hr2 : IntsAt H' a r := hr2
        refine ⟨rfl, yes (iteT ⟨.int (i : Int), rfl, .ref a, rfl, sz_2 _ _, fun t1 nt1 => ?_⟩)⟩
        have st1 := same_new (o := .tup [.int (i : Int), .ref a]) nt1
        have hD1 := st1 _ _ hD
        refine ⟨_, hD1, ?_, same_late (sj.trans st1) nD, ca ++ [t1], by rw [upd_same, List.map_append]; rfl, ?_⟩
        · have h1 := hRc.len
          rw [List.length_map, List.length_take] at h1
          rw [List.length_map]
          exact small1000 (by omega)
        · rw [List.take_add_one, hr1, List.map_append]
          have sr : SrAt (upd H' t1 (.tup [.int (i : Int), .ref a])) t1 (i, r) := ⟨a, upd_same, hr2.same st1⟩
          exact ((hRc.same st1).lput hD1).app ⟨sr.mono fun b xs e => by rw [upd_ne (ne_of e hD1 (fun z => by cases z))]; exact e, True.intro⟩
      · rw [List.length_map, hal, List.take_length] at hRc
        have hls6 := sj _ _ hls5
        have hcl := hRc.len
        rw [List.length_map] at hcl
        have hsl := Sr.len
        refine ⟨ls, D, _, _, rfl, rfl, hls6, hD, ?_, lo, ls, ao, sa ++ ca, oth, st ++ at_.map fun r => (i, r), _, _, rfl, ExtN.late (E4.trans (E5.trans (ExtN.of_same sj))) n4, tabs_list (T5.ext sj) hls6, n4, ?_, ?_, (Ro.same sj).lput hls6, by rw [upd_same, List.map_append], ((((Sr.ext E5).same sj)).lput hls6).app (hRc.lput hls6), S.step hLl hi' hc0 hc hE O⟩
        · rw [List.length_map, List.length_map]
          exact sz1000 (by omega)
        · exact (no.ne hls hlsn).symm
        · rw [upd_ne (no.ne hls hlsn).symm]
          exact sj _ _ hlo
    · obtain ⟨lr, ls, ra, sa, rows, st, y3, y4, rfl, E4, T4, n4, ne4, hlr, Rr, hls, Sr, S⟩ := hI
      rw [Int.toNat_natCast] at S
      obtain ⟨d1, d2, d3⟩ := S.done hLl hok.2.1
      exact ⟨.ref ls, rfl, q H4 ls sa st E4 T4 n4 hls Sr ⟨S.ech, d1, d2, d3⟩⟩
/-! ### whole_of -/
theorem whole_take {st : List (Nat × List Int)} {i : Nat} {q : Nat × List Int} (h : st[i]? = some q) : whole (st.take (i + 1)) = whole (st.take i) * absI (pz q.1 q.2) := by
  rw [List.take_add_one, h]
  unfold whole
  rw [List.foldl_append]
  rfl
def spWhole : Sp := fun vs H Q _ => ∃ (l : Addr) (sa : List Addr) (st : List (Nat × List Int)) (n : Nat), vs = [.ref l] ∧ H l = some (.lst (sa.map V.ref)) ∧ SrsAt H sa st ∧ Ech n st ∧ (∀ q ∈ st, Ent (bnd 4) q.2) ∧ st.length ≤ 5 ∧ ∀ H', Same H H' → Q (.int (whole st)) H'
theorem whole_bits {n : Nat} {st : List (Nat × List Int)} (h : ∀ q ∈ st, Ent (bnd 4) q.2) (few : st.length ≤ 5) : 0 ≤ whole st ∧ whole st ≤ 2 ^ 23500 := by
  obtain ⟨h1, h2⟩ := whole_ent (two_pos 4700) (st := st) fun q hq => (h q hq).mono bnd_bits
  refine ⟨h1, Int.le_trans h2 ?_⟩
  rw [← Int.pow_mul]
  exact two_mono (by omega)
theorem ok_whole {f : Addr} {fd : FuncData} {k : Nat} (F : Fun K "whole_of" "whole_of" sWhole f fd) (mAb : mg "abs" = none) : FnOk P w K mg base CX0 (k + 1) f fd ["stairs"] spWhole := by
  refine F.ok scWo (fun vs H Q E h => ?_) (fun cdv A outer s H vs Q E hr h => ?_)
  · obtain ⟨l, sa, st, n, rfl, _⟩ := h
    rfl
  · obtain ⟨l, sa, st, n, rfl, hl, Sr, ech, ent, few, q⟩ := h
    have hsl := Sr.len
    refine ⟨_, (pss_cons (ps_set (i := 1) scWo.nd rfl (.inl rfl) pe_int)
      (pss_cons (ps_for PassesOwn.never rfl (pi_list (pv 0)) (pg_tup rfl (pgs_cons (pg_name (i := 2) scWo.nd rfl (.inl rfl)) (pgs_cons (pg_name (i := 3) scWo.nd rfl (.inl rfl)) pgs_nil)))
      (pss_one (ps_aug (i := 1) scWo.nd rfl (.inl rfl) (pe_callB call_abs (by rfl) mAb (by decide +kernel) (pa_cons (pe_ix ix_tup (pv 3) (pv 2) (fun _ _ => rfl)) pa_nil)) ip_mulW)))
      (pss_one (ps_ret (pv 1))))), ?_⟩
    refine ⟨.ref l, rfl, l, rfl, ⟨_, SqL.of hl⟩, ?_⟩
    refine for_list (K := K) (a := l) (xs := sa.map V.ref) (fun i σ H' => H = H' ∧ ∃ y2 y3 : Option V, σ = [some (.ref l), some (.int (whole (st.take i))), y2, y3]) ⟨rfl, none, none, rfl⟩ (fun i σ H' _ hI => by rw [← hI.1]; exact SqL.of hl) (fun i x σ H' hx hI => ?_) (fun σ H' hI => ?_)
    · obtain ⟨rfl, y2, y3, rfl⟩ := hI
      obtain ⟨a, ha, rfl⟩ := refAt hx
      obtain ⟨qi, hq1, r, hr1, hr2⟩ := Sr.at ha
      obtain ⟨k1, k2, k3, k4⟩ := ech.ok qi (List.mem_of_getElem? hq1)
      refine ⟨a, _, rfl, SqT.of hr1, rfl, _, _, rfl, _, _, rfl, rfl, ?_⟩
      have hw := whole_bits (n := n) (st := st.take i) (fun q hq => ent q (List.mem_of_mem_take hq)) (Nat.le_trans (List.length_take_le' _ _) few)
      have hv := ((ent qi (List.mem_of_getElem? hq1)).mono bnd_bits).at (by have := two_pos 4700; omega) qi.1
      refine ⟨_, rfl, .ref r, rfl, .int (qi.1 : Nat), rfl, r, _, _, _, rfl, rfl, SqT.of hr2, atIT (by rw [k2]; exact k1), _, rfl, _, _, rfl, rfl, ?_, rfl, some (.int (qi.1 : Nat)), some (.ref r), ?_⟩
      · refine cmulW (a := 23500) (b := 4700) ⟨?_, hw.2⟩ ?_ (by decide)
        · have := two_pos 23500
          generalize (2 : Int) ^ 23500 = z at *
          omega
        · show -(2 : Int) ^ 4700 ≤ absI (pz qi.1 qi.2) ∧ absI (pz qi.1 qi.2) ≤ (2 : Int) ^ 4700
          generalize (2 : Int) ^ 4700 = z at *
          rcases absI_eq (pz qi.1 qi.2) with ⟨e1, e2⟩ | ⟨e1, e2⟩ <;> omega
      · rw [whole_take hq1]
        rfl
    · obtain ⟨rfl, y2, y3, rfl⟩ := hI
      rw [List.length_map, hsl, List.take_length]
      exact ⟨_, rfl, q _ (Same.refl _)⟩
/-! ### least_none -/
def spLeast : Sp := fun vs H Q _ => ∃ n : Int, vs = [.int n] ∧ n ≠ 0 ∧ ∀ b : Int, 2 ≤ b → n % b ≠ 0 → Q (.int b) H
theorem ok_least {f : Addr} {fd : FuncData} {k : Nat} (F : Fun K "least_none" "least_none" sLeastNone f fd) : FnOk P w K mg base CX0 (k + 1) f fd ["number"] spLeast := by
  refine F.ok scLn (fun vs H Q E h => ?_) (fun cdv A outer s H vs Q E hr h => ?_)
  · obtain ⟨n, rfl, _⟩ := h
    rfl
  · obtain ⟨n, rfl, hn, q⟩ := h
    refine ⟨_, (pss_cons (ps_set (i := 1) scLn.nd rfl (.inl rfl) pe_int)
      (pss_cons (ps_while PassesOwn.never (pt_cmpR op_eq (pe_op op_mod (pv 0) (pv 1)) pe_int (nomark _))
      (pss_one (ps_aug (i := 1) scLn.nd rfl (.inl rfl) pe_int ip_add)))
      (pss_one (ps_ret (pv 1))))), ?_⟩
    refine while_by (fun σ H' => ∃ b : Int, σ = [some (.int n), some (.int b)] ∧ 2 ≤ b ∧ H = H') (fun σ _ => match σ with | [_, some (.int b)] => n.natAbs + 2 - b.toNat | _ => 0) ⟨2, rfl, by decide, rfl⟩ ?_ ?_
    · rintro σ H' ⟨b, rfl, hb, rfl⟩
      refine ⟨.int n, rfl, .int b, rfl, n, b, rfl, rfl, (by show (0 : Int) < b; omega), rfl, _, rfl, ite2 (fun c1 => ?_) (fun c1 => ?_)⟩
      · have c1' : n % b = 0 := V.int.inj (of_decide_eq_true c1)
        have hd : b ∣ n := Int.dvd_of_emod_eq_zero c1'
        have hle : b.natAbs ≤ n.natAbs := Nat.le_of_dvd (by omega) (Int.natAbs_dvd_natAbs.mpr hd)
        refine ⟨.int b, rfl, b, 1, rfl, rfl, ⟨b + 1, rfl, by omega, rfl⟩, ?_⟩
        show n.natAbs + 2 - (b + 1).toNat < n.natAbs + 2 - b.toNat
        omega
      · exact ⟨.int b, rfl, q b hb fun z => c1 (decide_eq_true (congrArg V.int z))⟩
    · rintro σ H' Q1 Q2 hQ ⟨v, hv, u, hu, i, j, e1, e2, e3, e4, b, e5, h⟩
      exact ⟨v, hv, u, hu, i, j, e1, e2, e3, e4, b, e5, hQ _ _ h⟩
/-! ### row_coming_to -/
def spComing (K : PySem.W.Frag) : Sp := fun vs H Q _ => ∃ (l s b : Addr) (sa : List Addr) (st : List (Nat × List Int)) (n : Nat) (ss x : List Int), vs = [.ref l, .ref s, .ref b] ∧ H l = some (.lst (sa.map V.ref)) ∧ SrsAt H sa st ∧ Ech n st ∧ n ≤ 3 ∧ (∀ q ∈ st, Ent (bnd 4) q.2) ∧ st.length ≤ 5 ∧ TL H s ss ∧ ss.length = st.length ∧ TL H b x ∧ x.length = n ∧ Ent (2 ^ 23500) ss ∧ Ent (2 ^ 23500) x ∧
  ∀ H' t, Same H H' → IntsAt H' t (comeTo st ss x) → Ent (2 ^ 60000) (comeTo st ss x) → Q (.ref t) H'
theorem come_bits {n : Nat} {st : List (Nat × List Int)} {ss x : List Int} (ech : Ech n st) (n3 : n ≤ 3) (ent : ∀ q ∈ st, Ent (bnd 4) q.2) (few : st.length ≤ 5) (hl : ss.length = st.length) (h1 : Ent (2 ^ 23500) ss) (h2 : Ent (2 ^ 23500) x) : Ent (2 ^ 60000) (comeTo st ss x) := by
  have h := come_ent (M := 2 ^ 4700) (W := 2 ^ 23500) (by have := two_pos 4700; omega) (two_pos 23500) ech (fun q hq => (ent q hq).mono bnd_bits) hl h1 h2
  refine h.mono ?_
  have k1 : 3 + (n : Int) * 2 ^ 4700 ≤ 2 ^ 4703 := by
    have e : (2 : Int) ^ 4703 = 2 ^ 4700 * 8 := by rw [show (4703 : Nat) = 4700 + 3 from rfl, Int.pow_add]; rfl
    have := two_pos 4700
    generalize (2 : Int) ^ 4700 = z at *
    have : (n : Int) * z ≤ 3 * z := Int.mul_le_mul_of_nonneg_right (by omega) (by omega)
    omega
  have k2 : ∀ m : Nat, (3 + (n : Int) * 2 ^ 4700) ^ m ≤ ((2 : Int) ^ 4703) ^ m := fun m => by
    have z0 : 0 ≤ 3 + (n : Int) * 2 ^ 4700 := by
      have := Int.mul_nonneg (show (0 : Int) ≤ n by omega) (show (0 : Int) ≤ 2 ^ 4700 by have := two_pos 4700; omega)
      omega
    generalize 3 + (n : Int) * 2 ^ 4700 = u at *
    generalize (2 : Int) ^ 4703 = v at *
    induction m with
    | zero => rw [Int.pow_zero, Int.pow_zero]; exact Int.le_refl _
    | succ m ih =>
      rw [Int.pow_succ, Int.pow_succ]
      exact Int.mul_le_mul ih k1 z0 (Int.le_trans (Int.pow_nonneg z0) ih)
  have k3 : (2 : Int) ^ 23500 * (3 + (n : Int) * 2 ^ 4700) ^ st.length ≤ 2 ^ 23500 * ((2 : Int) ^ 4703) ^ st.length := Int.mul_le_mul_of_nonneg_left (k2 _) (by have := two_pos 23500; omega)
  refine Int.le_trans k3 ?_
  rw [← Int.pow_mul, ← Int.pow_add]
  exact two_mono (by omega)
theorem drop_some {α : Type} {l : List α} {i : Nat} {x : α} (h : l[i]? = some x) : l.drop i = x :: l.drop (i + 1) := by
  obtain ⟨h1, h2⟩ := List.getElem?_eq_some_iff.mp h
  rw [List.drop_eq_getElem_cons h1, h2]
theorem TL.read {H : Hp} {b : Addr} {ys : List Int} {i : Nat} (h : TL H b ys) (hi : i < ys.length) {Q : VK} (q : Q (.int (ys.getD i 0)) H) : rIx K (.ref b) (.int (i : Int)) H Q := by
  rcases h with h | h
  · exact .inr (.inl ⟨b, _, _, _, rfl, rfl, SqT.of h, atIT hi, q⟩)
  · exact .inl ⟨b, _, _, _, rfl, rfl, SqL.of h, atIT hi, q⟩
theorem ixN_at {n j : Nat} (hj : j < n) : ixN n (j : Int) = some j := by
  unfold ixN
  rw [if_pos (by omega), if_pos (by omega), Int.toNat_natCast]
theorem set_map {l : List Int} {p : Nat} {v : Int} : (l.map V.int).set p (V.int v) = (l.set p v).map V.int := by
  rw [List.map_set]
theorem ok_coming {f : Addr} {fd : FuncData} (F : Fun K "row_coming_to" "row_coming_to" sComing f fd) (B : Bl mg) (mRv : mg "reversed" = none) (CW : Cal P w K mg base CX0 1 "weighed" ["row", "other"] spWeigh) : FnOk P w K mg base CX0 2 f fd ["stairs", "sums", "begun"] (spComing K) := by
  obtain ⟨fW, fdW, GW, gW, kW, bW⟩ := CW.ex
  refine F.ok scCt (fun vs H Q E h => ?_) (fun cdv A outer s H vs Q E hr h => ?_)
  · obtain ⟨l, s, b, sa, st, n, ss, x, rfl, _⟩ := h
    rfl
  · obtain ⟨l, s, b, sa, st, n, ss, x, rfl, hl, Sr, ech, n3, ent, few, hs, hsl, hb, hxl, hse, hxe, q⟩ := h
    have hal := Sr.len
    refine ⟨_, (pss_cons (ps_set (i := 3) scCt.nd rfl (.inl rfl) (pe_callTy call_list_of (by rfl) B.list (by decide +kernel) (pa_cons (pv 2) pa_nil)))
      (pss_cons (ps_for PassesOwn.never rfl (pi_revR (by rfl) mRv (prg_1 (by rfl) B.range (pe_callB call_len_seq (by rfl) B.len PySem.boot_len (pa_cons (pv 0) pa_nil)))) (pg_name (i := 4) scCt.nd rfl (.inl rfl))
      (pss_cons (ps_asg (pe_ix ix_list (pv 0) (pv 4) (fun _ _ => rfl)) (pg_tup rfl (pgs_cons (pg_name (i := 5) scCt.nd rfl (.inl rfl)) (pgs_cons (pg_name (i := 6) scCt.nd rfl (.inl rfl)) pgs_nil))))
      (pss_one (ps_asg (pe_op op_fdivX (pe_op op_sub (pe_ix (r := rIx K) ix_seq (pv 1) (pv 4) (fun _ _ => rfl)) (pe_call GW hr (by rfl) gW kW bW .nil pass0 (pa_cons (pv 6) (pa_cons (pv 3) pa_nil)))) (pe_ix ix_tup (pv 6) (pv 5) (fun _ _ => rfl))) (pg_sub (pv 3) (pv 5) set_list)))))
      (pss_one (ps_ret (pe_callTy call_tuple_of (by rfl) B.tuple (by decide +kernel) (pa_cons (pv 3) pa_nil)))))), ?_⟩
    have hbq : SqL K H b (x.map V.int) ∨ SqT K H b (x.map V.int) := hb.elim (fun z => .inr (SqT.of z)) (fun z => .inl (SqL.of z))
    refine ⟨.ref b, rfl, b, _, rfl, hbq, fun D nD => ?_⟩
    have sD := same_new (o := .lst (x.map V.int)) nD
    refine ⟨.ref l, rfl, l, _, rfl, .inl (SqL.of (sD _ _ hl)), _, rfl, by decide, by decide, by rw [List.length_map]; omega, by rw [List.length_map]; omega, ?_⟩
    rw [List.length_map, hal]
    have e0 : (((st.length : Nat) : Int) - 0).toNat = st.length := by omega
    rw [e0]
    refine for_rangeC (lo := (0 : Int) + ((st.length : Nat) : Int) - 1) (c := -1) (n := st.length) (fun j σ H' => ∃ y4 y5 y6 : Option V, σ = [some (.ref l), some (.ref s), some (.ref b), some (.ref D), y4, y5, y6] ∧ Same H H' ∧ H' D = some (.lst ((comeTo (st.drop (st.length - j)) (ss.drop (st.length - j)) x).map V.int))) ⟨none, none, none, rfl, sD, by rw [Nat.sub_zero, List.drop_length]; exact upd_same⟩ (fun j σ H' hj hI => ?_) (fun σ H' hI => ?_)
    · obtain ⟨y4, y5, y6, rfl, sm, hD⟩ := hI
      have ez : (0 : Int) + ((st.length : Nat) : Int) - 1 + ((j : Nat) : Int) * -1 = ((st.length - 1 - j : Nat) : Int) := by omega
      rw [ez]
      have ei : st.length - j = (st.length - 1 - j) + 1 := by omega
      have ei2 : st.length - (j + 1) = st.length - 1 - j := by omega
      rw [ei2]
      rw [ei] at hD
      have hi : st.length - 1 - j < st.length := by omega
      generalize st.length - 1 - j = i at *
      obtain ⟨a, ha⟩ : ∃ a, sa[i]? = some a := ⟨_, List.getElem?_eq_getElem (by omega)⟩
      obtain ⟨qi, hq1, r, hr1, hr2⟩ := (Sr.same sm).at ha
      obtain ⟨k1, k2, k3, k4⟩ := ech.ok qi (List.mem_of_getElem? hq1)
      have hs1 : ss[i]? = some (ss.getD i 0) := getD_at (by omega)
      have edef : comeTo (st.drop i) (ss.drop i) x = (comeTo (st.drop (i + 1)) (ss.drop (i + 1)) x).set qi.1 ((ss.getD i 0 - dotI qi.2 (comeTo (st.drop (i + 1)) (ss.drop (i + 1)) x)).fdiv (pz qi.1 qi.2)) := by
        rw [drop_some hq1, drop_some hs1]
        rfl
      have echd : Ech n (st.drop (i + 1)) := ⟨ech.rise.sublist (List.drop_sublist _ _), fun q hq => ech.ok q (List.mem_of_mem_drop hq)⟩
      have eb := come_bits (st := st.drop (i + 1)) (ss := ss.drop (i + 1)) (x := x) echd n3 (fun q hq => ent q (List.mem_of_mem_drop hq)) (by rw [List.length_drop]; omega) (by rw [List.length_drop, List.length_drop]; omega) (fun y hy => hse y (List.mem_of_mem_drop hy)) hxe
      have eyl : (comeTo (st.drop (i + 1)) (ss.drop (i + 1)) x).length = n := by rw [come_len, hxl]
      rw [edef]
      generalize comeTo (st.drop (i + 1)) (ss.drop (i + 1)) x = y at *
      have eq4 := (ent qi (List.mem_of_getElem? hq1)).mono bnd_bits
      refine ⟨.ref l, rfl, .int (i : Int), rfl, l, _, _, .ref a, rfl, rfl, SqL.of (sm _ _ hl), atI_nat (by rw [List.getElem?_map, ha]; rfl), a, _, rfl, SqT.of hr1, rfl, _, _, rfl, _, _, rfl, rfl, ?_⟩
      refine ⟨.ref s, rfl, .int (i : Int), rfl, TL.read (hs.same sm) (by omega) ?_⟩
      refine ⟨.ref r, rfl, .ref D, rfl, r, D, qi.2, y, 4700, 60000, rfl, hr2, .inr hD, by rw [k2, eyl], by omega, eq4, eb, by decide, fun H2 s2 => ?_⟩
      have hv := eq4.at (by have := two_pos 4700; omega) qi.1
      have hD2 := s2 _ _ hD
      refine ⟨_, _, rfl, rfl, .ref r, rfl, .int (qi.1 : Nat), rfl, r, _, _, _, rfl, rfl, SqT.of (hr2.same s2), atIT (by rw [k2]; exact k1), _, _, rfl, rfl, ⟨k3, ?_⟩, .ref D, rfl, .int (qi.1 : Nat), rfl, D, _, _, qi.1, rfl, rfl, hD2, ?_, _, _, _, rfl, same_late (sm.trans s2) nD, ?_⟩
      · exact Nat.lt_of_le_of_lt (log_le (a := 4700) hv) (by decide)
      · rw [List.length_map, eyl]
        exact ixN_at k1
      · rw [upd_same]
        exact congrArg (fun z => some (HO.lst z)) set_map
    · obtain ⟨y4, y5, y6, rfl, sm, hD⟩ := hI
      rw [Nat.sub_self, List.drop_zero, List.drop_zero] at hD
      exact ⟨.ref D, rfl, D, _, rfl, .inl ⟨SqL.of hD, fun z nz => q _ z (sm.trans (same_new nz)) upd_same (come_bits ech n3 ent few hsl hse hxe)⟩⟩
end
end HL

set_option pp.maxSteps 3000
namespace HL
open PySem PySem.Spec PyProof.Rows L2
open C8 (pss_cut)
open LamX (CodeO Tabs TabS TabB ExtN tLam LamS lamS_by lamCx lamEnv codeO_ne)
theorem scPa : FnScope ["stairs", "bill", "whole", "many", "stair", "row", "part"] ["stairs", "bill"] (defScope sByParts) := ⟨rfl, rfl, rfl, by decide +kernel, rfl, by decide +kernel, by decide +kernel⟩
theorem scBe : FnScope ["stairs", "bill", "whole", "begins", "good", "row", "told", "hold", "part"] ["stairs", "bill"] (defScope sReBeside) := ⟨rfl, rfl, rfl, by decide +kernel, rfl, by decide +kernel, by decide +kernel⟩
theorem scRe : FnScope ["lot", "bill", "stairs", "paper"] ["lot", "bill"] (defScope sRests) := ⟨rfl, rfl, rfl, by decide +kernel, rfl, by decide +kernel, by decide +kernel⟩
abbrev NPa : List Str := ["stairs", "bill", "whole", "many", "stair", "row", "part"]
abbrev NBe : List Str := ["stairs", "bill", "whole", "begins", "good", "row", "told", "hold", "part"]
theorem unI_len {g n : Nat} (h : g < n) : (unI g n).length = n := by
  unfold unI
  rw [List.length_append, List.length_append, zeros_len, zeros_len, List.length_singleton]
  omega
theorem unI_at {g n t : Nat} {s : Int} (h : g < n) (hs : (unI g n)[t]? = some s) : s = if t = g then 1 else 0 := by
  unfold unI zeros at hs
  by_cases c : t < g
  · rw [List.append_assoc, List.getElem?_append_left (by rw [List.length_replicate]; exact c), List.getElem?_replicate, if_pos c] at hs
    rw [if_neg (by omega)]
    exact (Option.some.inj hs).symm
  · by_cases d : t = g
    · subst d
      rw [List.append_assoc, List.getElem?_append_right (by rw [List.length_replicate]; exact Nat.le_refl _), List.length_replicate, Nat.sub_self] at hs
      rw [if_pos rfl]
      exact (Option.some.inj hs).symm
    · rw [List.getElem?_append_right (by rw [List.length_append, List.length_replicate, List.length_singleton]; omega), List.getElem?_replicate] at hs
      rw [if_neg d]
      split at hs
      · exact (Option.some.inj hs).symm
      · cases hs
theorem unI_ent {g n : Nat} (h : g < n) {w : Int} (w0 : 0 ≤ w) {W : Int} (hw : w ≤ W) : Ent W ((unI g n).map fun u => w * u) := fun x hx => by
  obtain ⟨u, hu, rfl⟩ := List.mem_map.mp hx
  obtain ⟨t, ht⟩ := List.mem_iff_getElem?.mp hu
  rw [unI_at h ht]
  split
  · rw [Int.mul_one]; omega
  · rw [Int.mul_zero]; omega
theorem zeros_ent {n : Nat} {W : Int} (hw : 0 ≤ W) : Ent W (zeros n) := fun x hx => by
  rw [List.eq_of_mem_replicate hx]
  omega
/-- the row of a part; a row beside -/
def partX (st : List (Nat × List Int)) (n i : Nat) : List Int := comeTo st ((unI i st.length).map fun u => whole st * u) (zeros n)
def besideX (st : List (Nat × List Int)) (n g : Nat) : List Int := comeTo st (zeros st.length) ((unI g n).map fun u => whole st * u)
theorem partX_ok {n i : Nat} {st : List (Nat × List Int)} {q : Nat × List Int} (h : Ech n st) (hq : st[i]? = some q) : PartRow n st i q (partX st n i) := by
  have hi : i < st.length := (List.getElem?_eq_some_iff.mp hq).1
  refine part_ok h hq (by rw [List.length_map, unI_len hi]) (fun t s ht => ?_) rfl
  rw [List.getElem?_map] at ht
  cases e : (unI i st.length)[t]? with
  | none => rw [e] at ht; cases ht
  | some u =>
    rw [e] at ht
    have ht' : whole st * u = s := Option.some.inj ht
    rw [← ht', unI_at hi e]
    split <;> omega
theorem besideX_ok {n g : Nat} {st : List (Nat × List Int)} (h : Ech n st) (hg : g < n) (hn : ∀ q ∈ st, q.1 ≠ g) : BesideRow n st g (besideX st n g) := by
  refine beside_ok h hg hn (zeros_len _) (fun s hs => List.eq_of_mem_replicate hs) (by rw [List.length_map, unI_len hg]) fun j s hj => ?_
  rw [List.getElem?_map] at hj
  cases e : (unI g n)[j]? with
  | none => rw [e] at hj; cases hj
  | some u =>
    rw [e] at hj
    have hj' : whole st * u = s := Option.some.inj hj
    rw [← hj', unI_at hg e]
    split <;> omega
/-- a paper that bars: rests -/
structure RestOk (ll : List (List Int)) (bs x : List Int) (b : Int) : Prop where
  two : 2 ≤ b
  len : x.length = bs.length
  bill : ¬ b ∣ dotI bs x
  lot : ∀ h ∈ ll, b ∣ dotI h x
def reB (ll : List (List Int)) (bs x : List Int) (b : Int) : Bool := decide (x.length = bs.length) && (decide (2 ≤ b) && (!decide (dotI bs x % b = 0) && ll.all fun h => decide (dotI h x % b = 0)))
theorem reB_iff {ll : List (List Int)} {bs x : List Int} {b : Int} : reB ll bs x b = true ↔ RestOk ll bs x b := by
  unfold reB
  simp only [Bool.and_eq_true, decide_eq_true_eq, Bool.not_eq_true', decide_eq_false_iff_not, List.all_eq_true]
  constructor
  · rintro ⟨h1, h2, h3, h4⟩
    exact ⟨h2, h1, fun z => h3 (Int.emod_eq_zero_of_dvd z), fun h hh => Int.dvd_of_emod_eq_zero (h4 h hh)⟩
  · rintro ⟨h1, h2, h3, h4⟩
    exact ⟨h2, h1, fun z => h3 (Int.dvd_of_emod_eq_zero z), fun h hh => Int.emod_eq_zero_of_dvd (h4 h hh)⟩
/-- what whole numbers of kinds come to is barred by no paper -/
theorem lat_free {ll : List (List Int)} {bs x : List Int} {b : Int} (hL : Len bs.length ll) (h : Lat bs.length ll bs) : ¬ RestOk ll bs x b := fun r => r.bill (h.dvd hL r.lot)
theorem part_rest {ll : List (List Int)} {st : List (Nat × List Int)} {bs : List Int} {i : Nat} {q : Nat × List Int} (S : StOk bs.length ll st) (hq : st[i]? = some q) (h : ¬ whole st ∣ dotI bs (partX st bs.length i)) : RestOk ll bs (partX st bs.length i) (whole st) := by
  have p := partX_ok S.ech hq
  have w1 := whole_pos S.ech
  refine ⟨?_, p.len, h, fun r hr => ?_⟩
  · rcases Int.lt_or_le (whole st) 2 with z | z
    · exfalso
      have e : whole st = 1 := by omega
      rw [e] at h
      exact h (Int.one_dvd _)
    · exact z
  · refine (S.same.1 r hr).dvd (lenS S.ech) fun r' hr' => ?_
    obtain ⟨q', hq', rfl⟩ := List.mem_map.mp hr'
    obtain ⟨t, ht⟩ := List.mem_iff_getElem?.mp hq'
    rw [p.dot t q' ht]
    split
    · exact Int.dvd_refl _
    · exact Int.dvd_zero _
theorem beside_rest {ll : List (List Int)} {st : List (Nat × List Int)} {bs : List Int} {g : Nat} {b : Int} (S : StOk bs.length ll st) (hg : g < bs.length) (hn : ∀ q ∈ st, q.1 ≠ g) (hb : 2 ≤ b) (h : dotI bs (besideX st bs.length g) % b ≠ 0) : RestOk ll bs (besideX st bs.length g) b := by
  have p := besideX_ok S.ech hg hn
  refine ⟨hb, p.len, fun z => h (Int.emod_eq_zero_of_dvd z), fun r hr => ?_⟩
  have : (0 : Int) ∣ dotI r (besideX st bs.length g) := (S.same.1 r hr).dvd (lenS S.ech) fun r' hr' => by
    obtain ⟨q', hq', rfl⟩ := List.mem_map.mp hr'
    rw [p.dot q' hq']
    exact Int.dvd_refl _
  rw [Int.zero_dvd.mp this]
  exact Int.dvd_zero _
theorem none_rest {ll : List (List Int)} {st : List (Nat × List Int)} {bs : List Int} (S : StOk bs.length ll st) (hL : Len bs.length ll) (h1 : ∀ i q, st[i]? = some q → whole st ∣ dotI bs (partX st bs.length i)) (h2 : ∀ g, g < bs.length → (∀ q ∈ st, q.1 ≠ g) → dotI bs (besideX st bs.length g) = 0) : Lat bs.length ll bs :=
  Lat.mono hL S.same.2 (lat_bill S.ech rfl (partX st bs.length) (besideX st bs.length) (fun i q hq => partX_ok S.ech hq) (fun g hg hn => besideX_ok S.ech hg hn) h1 h2)
theorem inV_ints {g : Int} : ∀ {l : List Int}, inV (.int g) (l.map V.int) = decide (g ∈ l)
  | [] => rfl
  | x :: l => by
    have ih := inV_ints (g := g) (l := l)
    unfold inV at ih ⊢
    rw [List.map_cons, List.any_cons, ih]
    have e : eqV (V.int x) (V.int g) = decide (x = g) := rfl
    simp only [e, List.mem_cons]
    by_cases c : x = g
    · simp [c]
    · have c' : g ≠ x := fun z => c z.symm
      simp [c, c']
section
variable {P : Program} {w : World} {K : PySem.W.Frag} {mg : Str → Option Value} {base : Heap}
theorem bill_ent {bs : List Int} (h : ∀ n ∈ bs, 0 ≤ n ∧ n < G30) : Ent (2 ^ 100) bs := fun x hx => by
  have := h x hx
  have e : (1000000000000000000000000000000 : Int) ≤ 2 ^ 100 := by decide +kernel
  have hG : G30 = 1000000000000000000000000000000 := rfl
  generalize (2 : Int) ^ 100 = z at *
  omega
theorem part_bits {st : List (Nat × List Int)} {ll : List (List Int)} {n i : Nat} (S : StOk n ll st) (n3 : n ≤ 3) (hi : i < st.length) : Ent (2 ^ 23500) ((unI i st.length).map fun u => whole st * u) := by
  have hw := whole_bits (n := n) S.ent S.few
  exact unI_ent hi hw.1 hw.2
def spParts : Sp := fun vs H Q _ => ∃ (l b : Addr) (sa : List Addr) (st : List (Nat × List Int)) (ll : List (List Int)) (bs : List Int), vs = [.ref l, .ref b] ∧ H l = some (.lst (sa.map V.ref)) ∧ SrsAt H sa st ∧ StOk bs.length ll st ∧ bs.length ≤ 3 ∧ IntsAt H b bs ∧ Ent (2 ^ 100) bs ∧
  ((∀ i q, st[i]? = some q → whole st ∣ dotI bs (partX st bs.length i)) → ∀ H', Same H H' → Q .non H') ∧ ∀ i q H' t r, st[i]? = some q → ¬ whole st ∣ dotI bs (partX st bs.length i) → Same H H' → H' t = some (.tup [.ref r, .int (whole st)]) → IntsAt H' r (partX st bs.length i) → Ent (2 ^ 60000) (partX st bs.length i) → Q (.ref t) H'
theorem ok_parts {f : Addr} {fd : FuncData} (F : Fun K "rests_by_parts" "rests_by_parts" sByParts f fd) (B : Bl mg) (CWo : Cal P w K mg base CX0 1 "whole_of" ["stairs"] spWhole) (CU : Cal P w K mg base CX0 1 "unit" ["place", "many"] spUnit) (CC : Cal P w K mg base CX0 2 "row_coming_to" ["stairs", "sums", "begun"] (spComing K)) (CW : Cal P w K mg base CX0 1 "weighed" ["row", "other"] spWeigh) : FnOk P w K mg base CX0 3 f fd ["stairs", "bill"] spParts := by
  obtain ⟨fWo, fdWo, GWo, gWo, kWo, bWo⟩ := CWo.ex
  obtain ⟨fU, fdU, GU, gU, kU, bU⟩ := CU.ex
  obtain ⟨fC, fdC, GC, gC, kC, bC⟩ := CC.ex
  obtain ⟨fW, fdW, GW, gW, kW, bW⟩ := CW.ex
  refine F.ok scPa (fun vs H Q E h => ?_) (fun cdv A outer s H vs Q E hr h => ?_)
  · obtain ⟨l, b, sa, st, ll, bs, rfl, _⟩ := h
    rfl
  · obtain ⟨l, b, sa, st, ll, bs, rfl, hl, Sr, S, n3, hb, hbe, q1, q2⟩ := h
    have hal := Sr.len
    have few := S.few
    have w1 := whole_pos S.ech
    have hw := whole_bits (n := bs.length) S.ent S.few
    refine ⟨_, (pss_cons (ps_set (i := 2) scPa.nd rfl (.inr rfl) (pe_call GWo (hr.mono (by decide)) (by rfl) gWo kWo bWo .nil pass0 (pa_cons (pv 0) pa_nil)))
      (pss_cons (ps_set (i := 3) scPa.nd rfl (.inl rfl) (pe_callB call_len_seq (by rfl) B.len PySem.boot_len (pa_cons (pv 0) pa_nil)))
      (pss_cons (ps_for PassesOwn.never rfl (pi_range1 (by rfl) B.range (pa_cons (pv 3) pa_nil)) (pg_name (i := 4) scPa.nd rfl (.inl rfl))
      (pss_cons (ps_set (i := 5) scPa.nd rfl (.inl rfl) (pe_call GC (hr.mono (by decide)) (by rfl) gC kC bC .nil pass0 (pa_cons (pv 0) (pa_cons (pe_lc (own := [("part", 6)]) (g := gName 6) (tt := tYes) (te := tOp (rI CMulW fun i j => .int (i * j)) (tVar 2) (tVar 6)) rfl scPa.nd (pi_tup (pe_call GU (hr.mono (by decide)) (by rfl) gU kU bU .nil pass0 (pa_cons (pv 4) (pa_cons (pv 3) pa_nil))))
        (blkOk_by (own := [("part", 6)]) (N := NPa) (sc := defScope sByParts) (by decide +kernel)) (fun _ _ _ _ _ => pg_name (i := 6) scPa.nd rfl (Or.inl rfl)) (fun _ _ _ _ _ => pts_nil)
        (fun _ _ _ _ _ => pe_op op_mulW (pv 2) (pv 6))) (pa_cons (pe_op op_repN (pe_tup (pa_cons pe_int pa_nil)) (pe_callB call_len_seq (by rfl) B.len PySem.boot_len (pa_cons (pv 1) pa_nil))) pa_nil)))))
      (pss_one (ps_if (pt_cmpR op_ne (pe_op op_mod (pe_call GW (hr.mono (by decide)) (by rfl) gW kW bW .nil pass0 (pa_cons (pv 1) (pa_cons (pv 5) pa_nil))) (pv 2)) pe_int (nomark _)) (pss_one (ps_ret (pe_tup (pa_cons (pv 5) (pa_cons (pv 2) pa_nil))))) pss_nil))))
      (pss_one (ps_ret pe_non))))), ?_⟩
    refine ⟨.ref l, rfl, l, sa, st, bs.length, rfl, hl, Sr, S.ech, S.ent, S.few, fun H1 s1 => ?_⟩
    refine ⟨.ref l, rfl, l, _, rfl, .inl (SqL.of (s1 _ _ hl)), ?_⟩
    rw [List.length_map, hal]
    refine ⟨_, rfl, _, rfl, by omega, by omega, ?_⟩
    refine for_range (lo := 0) (n := ((st.length : Nat) : Int).toNat) (fun i σ H' => Same H H' ∧ (∃ y4 y5 : Option V, σ = [some (.ref l), some (.ref b), some (.int (whole st)), some (.int (st.length : Nat)), y4, y5, none]) ∧ ∀ j q, j < i → st[j]? = some q → whole st ∣ dotI bs (partX st bs.length j)) ⟨s1, ⟨none, none, rfl⟩, fun j q hj => absurd hj (Nat.not_lt_zero _)⟩ (fun i σ H2 hi hI => ?_) (fun σ H2 hI => ?_)
    · obtain ⟨s2, ⟨y4, y5, rfl⟩, hno⟩ := hI
      have hi' : i < st.length := by omega
      have ez : (0 : Int) + (i : Nat) = ((i : Nat) : Int) := by omega
      rw [ez]
      obtain ⟨q, hq⟩ : ∃ q, st[i]? = some q := ⟨_, List.getElem?_eq_getElem hi'⟩
      refine ⟨.ref l, rfl, .int (i : Int), rfl, .int (st.length : Nat), rfl, i, st.length, rfl, hi', by omega, fun H3 z1 s3 hz1 => ?_⟩
      refine ⟨z1, rfl, ⟨_, SqT.of hz1⟩, fun D nD => ?_⟩
      refine lc_tup (K := K) (a := z1) (xs := (unI i st.length).map V.int) (fun j H' => Same H3 H' ∧ H' D = some (.lst ((((unI i st.length).map fun u => whole st * u).take j).map V.int))) ⟨same_new nD, upd_same⟩ (fun j H' _ hP => SqT.of (hz1.same hP.1)) (fun j x H' hx ⟨sj, hD⟩ => ?_) (fun H' ⟨sj, hD⟩ => ?_)
      · obtain ⟨u, hu, rfl⟩ : ∃ u, (unI i st.length)[j]? = some u ∧ x = V.int u := by
          rw [List.getElem?_map] at hx
          cases e : (unI i st.length)[j]? with
          | none => rw [e] at hx; cases hx
          | some u => rw [e] at hx; exact ⟨u, rfl, (Option.some.inj hx).symm⟩
        have hu1 := unI_at hi' hu
        have hjl := (List.getElem?_eq_some_iff.mp hu).1
        rw [unI_len hi'] at hjl
        refine ⟨rfl, yes (iteT ⟨_, rfl, .int u, rfl, _, _, rfl, rfl, cmulW (a := 23500) (b := 1) ⟨?_, hw.2⟩ ?_ (by decide), ?_⟩)⟩
        · have := two_pos 23500
          generalize (2 : Int) ^ 23500 = z at *
          omega
        · rw [hu1]
          split <;> decide
        · exact turn_fn (xs := (unI i st.length).map fun u => whole st * u) nD (by rw [List.getElem?_map, hu]; rfl) (by rw [List.length_map, unI_len hi']; omega) sj hD (Same.refl _)
      rw [List.length_map, unI_len hi', List.take_of_length_le (by rw [List.length_map, unI_len hi']; exact Nat.le_refl _)] at hD
      refine ⟨sz_1 _, fun t0 nt0 => ?_⟩
      have st0 := same_new (o := .tup [.int 0]) nt0
      have s5 := s2.trans (s3.trans (sj.trans st0))
      refine ⟨.ref b, rfl, b, _, rfl, .inr (SqT.of (hb.same s5)), ?_⟩
      rw [List.length_map]
      refine repN_read (n := bs.length) upd_same rfl (by omega) fun z2 H6 s6 hz2 => ?_
      have s6' := s5.trans s6
      refine nilA ⟨l, D, z2, sa, st, bs.length, _, _, rfl, s6' _ _ hl, Sr.same s6', S.ech, n3, S.ent, S.few, .inr ((st0.trans s6) _ _ hD), by rw [List.length_map, unI_len hi'], .inl hz2, zeros_len _, part_bits S n3 hi', zeros_ent (by have := two_pos 23500; omega), fun H7 t7 s7 ht7 he7 => ?_⟩
      have s7' := s6'.trans s7
      have p := partX_ok S.ech hq
      refine ⟨.ref b, rfl, .ref t7, rfl, b, t7, bs, _, 100, 60000, rfl, hb.same s7', .inl ht7, p.len.symm, by omega, hbe, he7, by decide, fun H8 s8 => ?_⟩
      refine ⟨_, rfl, _, _, rfl, rfl, (by show (0 : Int) < whole st; omega), rfl, _, rfl, ite2 (fun c1 => ?_) (fun c1 => ?_)⟩
      · have nd : ¬ whole st ∣ dotI bs (partX st bs.length i) := fun z => by
          have c1' : (!decide (V.int (dotI bs (partX st bs.length i) % whole st) = V.int 0)) = true := c1
          rw [decide_eq_true (congrArg V.int (Int.emod_eq_zero_of_dvd z))] at c1'
          cases c1'
        refine ⟨.ref t7, rfl, _, rfl, sz_2 _ _, fun t9 nt9 => ?_⟩
        have st9 := same_new (o := .tup [.ref t7, .int (whole st)]) nt9
        exact q2 i q _ t9 t7 hq nd (s7'.trans (s8.trans st9)) upd_same (ht7.same (s8.trans st9)) he7
      · have yd : whole st ∣ dotI bs (partX st bs.length i) := by
          by_cases z : dotI bs (partX st bs.length i) % whole st = 0
          · exact Int.dvd_of_emod_eq_zero z
          · have c1' : ¬ (!decide (V.int (dotI bs (partX st bs.length i) % whole st) = V.int 0)) = true := c1
            exact absurd (by rw [decide_eq_false (fun w => z (V.int.inj w))]; rfl) c1'
        refine ⟨s7'.trans s8, ⟨_, _, rfl⟩, fun j q' hj hjq => ?_⟩
        by_cases d : j < i
        · exact hno j q' d hjq
        · have e : j = i := by omega
          rw [e]
          exact yd
    · obtain ⟨s2, ⟨y4, y5, rfl⟩, hno⟩ := hI
      exact q1 (fun i q hq => hno i q (by have := (List.getElem?_eq_some_iff.mp hq).1; omega) hq) H2 s2
def spBeside : Sp := fun vs H Q _ => ∃ (l b : Addr) (sa : List Addr) (st : List (Nat × List Int)) (ll : List (List Int)) (bs : List Int), vs = [.ref l, .ref b] ∧ H l = some (.lst (sa.map V.ref)) ∧ SrsAt H sa st ∧ StOk bs.length ll st ∧ bs.length ≤ 3 ∧ IntsAt H b bs ∧ Ent (2 ^ 100) bs ∧
  ((∀ g, g < bs.length → (∀ q ∈ st, q.1 ≠ g) → dotI bs (besideX st bs.length g) = 0) → ∀ H', Same H H' → Q .non H') ∧ ∀ g H' t r y, g < bs.length → (∀ q ∈ st, q.1 ≠ g) → 2 ≤ y → dotI bs (besideX st bs.length g) % y ≠ 0 → Same H H' → H' t = some (.tup [.ref r, .int y]) → IntsAt H' r (besideX st bs.length g) → Ent (2 ^ 60000) (besideX st bs.length g) → Q (.ref t) H'
theorem ok_beside {f : Addr} {fd : FuncData} (F : Fun K "rests_beside" "rests_beside" sReBeside f fd) (B : Bl mg) (CWo : Cal P w K mg base CX0 1 "whole_of" ["stairs"] spWhole) (CU : Cal P w K mg base CX0 1 "unit" ["place", "many"] spUnit) (CC : Cal P w K mg base CX0 2 "row_coming_to" ["stairs", "sums", "begun"] (spComing K)) (CW : Cal P w K mg base CX0 1 "weighed" ["row", "other"] spWeigh) (CL : Cal P w K mg base CX0 1 "least_none" ["number"] spLeast) : FnOk P w K mg base CX0 3 f fd ["stairs", "bill"] spBeside := by
  obtain ⟨fWo, fdWo, GWo, gWo, kWo, bWo⟩ := CWo.ex
  obtain ⟨fU, fdU, GU, gU, kU, bU⟩ := CU.ex
  obtain ⟨fC, fdC, GC, gC, kC, bC⟩ := CC.ex
  obtain ⟨fW, fdW, GW, gW, kW, bW⟩ := CW.ex
  obtain ⟨fL, fdL, GL, gL, kL, bL⟩ := CL.ex
  refine F.ok scBe (fun vs H Q E h => ?_) (fun cdv A outer s H vs Q E hr h => ?_)
  · obtain ⟨l, b, sa, st, ll, bs, rfl, _⟩ := h
    rfl
  · obtain ⟨l, b, sa, st, ll, bs, rfl, hl, Sr, S, n3, hb, hbe, q1, q2⟩ := h
    have hal := Sr.len
    have few := S.few
    have w1 := whole_pos S.ech
    have hw := whole_bits (n := bs.length) S.ent S.few
    refine ⟨_, (pss_cons (ps_set (i := 2) scBe.nd rfl (.inr rfl) (pe_call GWo (hr.mono (by decide)) (by rfl) gWo kWo bWo .nil pass0 (pa_cons (pv 0) pa_nil)))
      (pss_cut (ps_setLc (i := 3) (own := [("good", 4), ("hold", 7)]) (g := gTup K 2 (gCons (gName 4) (gCons (gName 7) gNil))) (tt := tYes) (te := tVar 4) rfl scBe.nd rfl rfl (sw_true rfl rfl rfl (by decide +kernel)) (pi_list (pv 0))
        (blkOk_by (own := [("good", 4), ("hold", 7)]) (N := NBe) (sc := defScope sReBeside) (by decide +kernel)) (fun _ _ _ _ _ => (pg_tup rfl (pgs_cons (pg_name (i := 4) scBe.nd rfl (Or.inl rfl)) (pgs_cons (pg_name (i := 7) scBe.nd rfl (Or.inl rfl)) pgs_nil)))) (fun _ _ _ _ _ => pts_nil)
        (fun _ _ _ _ _ => pv 4))
      (pss_cons (ps_for PassesOwn.never rfl (pi_range1 (by rfl) B.range (pa_cons (pe_callB call_len_seq (by rfl) B.len PySem.boot_len (pa_cons (pv 1) pa_nil)) pa_nil)) (pg_name (i := 4) scBe.nd rfl (.inl rfl))
      (pss_one (ps_if (pt_cmpR op_notIn_seq (pv 4) (pv 3) (by rfl)) (pss_cons (ps_set (i := 5) scBe.nd rfl (.inl rfl) (pe_call GC (hr.mono (by decide)) (by rfl) gC kC bC .nil pass0 (pa_cons (pv 0) (pa_cons (pe_op op_repN (pe_tup (pa_cons pe_int pa_nil)) (pe_callB call_len_seq (by rfl) B.len PySem.boot_len (pa_cons (pv 0) pa_nil))) (pa_cons (pe_lc (own := [("part", 8)]) (g := gName 8) (tt := tYes) (te := tOp (rI CMulW fun i j => .int (i * j)) (tVar 2) (tVar 8)) rfl scBe.nd (pi_tup (pe_call GU (hr.mono (by decide)) (by rfl) gU kU bU .nil pass0 (pa_cons (pv 4) (pa_cons (pe_callB call_len_seq (by rfl) B.len PySem.boot_len (pa_cons (pv 1) pa_nil)) pa_nil))))
        (blkOk_by (own := [("part", 8)]) (N := NBe) (sc := defScope sReBeside) (by decide +kernel)) (fun _ _ _ _ _ => pg_name (i := 8) scBe.nd rfl (Or.inl rfl)) (fun _ _ _ _ _ => pts_nil)
        (fun _ _ _ _ _ => pe_op op_mulW (pv 2) (pv 8))) pa_nil)))))
      (pss_cons (ps_set (i := 6) scBe.nd rfl (.inl rfl) (pe_call GW (hr.mono (by decide)) (by rfl) gW kW bW .nil pass0 (pa_cons (pv 1) (pa_cons (pv 5) pa_nil))))
      (pss_one (ps_if (pt_cmpR op_ne (pv 6) pe_int (nomark _)) (pss_one (ps_ret (pe_tup (pa_cons (pv 5) (pa_cons (pe_call GL (hr.mono (by decide)) (by rfl) gL kL bL .nil pass0 (pa_cons (pv 6) pa_nil)) pa_nil))))) pss_nil)))) pss_nil)))
      (pss_one (ps_ret pe_non))))), ?_⟩
    refine ⟨.ref l, rfl, l, sa, st, bs.length, rfl, hl, Sr, S.ech, S.ent, S.few, fun H1 s1 => ?_⟩
    refine ⟨fun σ' H' => ∃ (lb : Addr), σ' = [some (.ref l), some (.ref b), some (.int (whole st)), some (.ref lb), none, none, none, none, none] ∧ Same H H' ∧ H' lb = some (.lst ((st.map fun q => (q.1 : Int)).map V.int)), ?_, ?_⟩
    · refine ⟨.ref l, rfl, l, rfl, ⟨_, SqL.of (s1 _ _ hl)⟩, fun D nD => ?_⟩
      refine lc_list (K := K) (a := l) (xs := sa.map V.ref) (fun j H' => Same H1 H' ∧ H' D = some (.lst (((st.map fun q => (q.1 : Int)).take j).map V.int))) ⟨same_new nD, upd_same⟩ (fun j H' _ hP => SqL.of (hP.1 _ _ (s1 _ _ hl))) (fun j x H' hx ⟨sj, hD⟩ => ?_) (fun H' ⟨sj, hD⟩ => ?_)
      · obtain ⟨a, ha, rfl⟩ := refAt hx
        obtain ⟨qi, hq1, r, hr1, hr2⟩ := ((Sr.same s1).same sj).at ha
        refine ⟨a, _, rfl, SqT.of hr1, rfl, _, _, rfl, _, _, rfl, rfl, rfl, yes (iteT ⟨_, rfl, ?_⟩)⟩
        exact turn_fn (xs := st.map fun q => (q.1 : Int)) nD (by rw [List.getElem?_map, hq1]; rfl) (by rw [List.length_map]; omega) sj hD (Same.refl _)
      · rw [List.length_map, hal, List.take_of_length_le (by rw [List.length_map]; exact Nat.le_refl _)] at hD
        exact ⟨D, rfl, s1.trans sj, hD⟩
    rintro σ' H2 ⟨lb, rfl, s2, hlb⟩
    refine ⟨.ref b, rfl, b, _, rfl, .inr (SqT.of (hb.same s2)), _, rfl, by rw [List.length_map]; omega, by rw [List.length_map]; omega, ?_⟩
    rw [List.length_map]
    refine for_range (lo := 0) (n := ((bs.length : Nat) : Int).toNat) (fun i σ H' => Same H2 H' ∧ (∃ y4 y5 y6 : Option V, σ = [some (.ref l), some (.ref b), some (.int (whole st)), some (.ref lb), y4, y5, y6, none, none]) ∧ ∀ g, g < i → (∀ q ∈ st, q.1 ≠ g) → dotI bs (besideX st bs.length g) = 0) ⟨Same.refl _, ⟨none, none, none, rfl⟩, fun j hj => absurd hj (Nat.not_lt_zero _)⟩ (fun i σ H2' hi hI => ?_) (fun σ H2' hI => ?_)
    · obtain ⟨s22, ⟨y4, y5, y6, rfl⟩, hno⟩ := hI
      have s2 := s2.trans s22
      have hi' : i < bs.length := by omega
      have ez : (0 : Int) + (i : Nat) = ((i : Nat) : Int) := by omega
      rw [ez]
      have hfl : ((st.map fun q => (q.1 : Int)).map V.int).all flatV = true := by
        rw [List.all_eq_true]
        intro x hx
        obtain ⟨n, _, rfl⟩ := List.mem_map.mp hx
        rfl
      refine ⟨.int (i : Int), rfl, .ref lb, rfl, lb, _, rfl, .inl (SqL.of (s22 _ _ hlb)), rfl, hfl, _, rfl, ?_⟩
      rw [if_pos rfl, inV_ints]
      refine ite2 (fun c1 => ?_) (fun c1 => ?_)
      · have hn : ∀ q ∈ st, q.1 ≠ i := fun q hq z => by
          rw [decide_eq_true (List.mem_map.mpr ⟨q, hq, by rw [z]⟩)] at c1
          cases c1
        refine ⟨.ref l, rfl, sz_1 _, fun t0 nt0 => ?_⟩
        have st0 := same_new (o := .tup [.int 0]) nt0
        have s5 := s2.trans st0
        refine ⟨.ref l, rfl, l, _, rfl, .inl (SqL.of (s5 _ _ hl)), ?_⟩
        rw [List.length_map, hal]
        refine repN_read (n := st.length) upd_same rfl (by omega) fun z2 H6 s6 hz2 => ?_
        have s6' := s5.trans s6
        refine ⟨.int (i : Int), rfl, .ref b, rfl, b, _, rfl, .inr (SqT.of (hb.same s6')), ?_⟩
        rw [List.length_map]
        refine ⟨i, bs.length, rfl, hi', by omega, fun H3 z1 s3 hz1 => ?_⟩
        refine ⟨z1, rfl, ⟨_, SqT.of hz1⟩, fun D nD => ?_⟩
        refine lc_tup (K := K) (a := z1) (xs := (unI i bs.length).map V.int) (fun j H' => Same H3 H' ∧ H' D = some (.lst ((((unI i bs.length).map fun u => whole st * u).take j).map V.int))) ⟨same_new nD, upd_same⟩ (fun j H' _ hP => SqT.of (hz1.same hP.1)) (fun j x H' hx ⟨sj, hD⟩ => ?_) (fun H' ⟨sj, hD⟩ => ?_)
        · obtain ⟨u, hu, rfl⟩ : ∃ u, (unI i bs.length)[j]? = some u ∧ x = V.int u := by
            rw [List.getElem?_map] at hx
            cases e : (unI i bs.length)[j]? with
            | none => rw [e] at hx; cases hx
            | some u => rw [e] at hx; exact ⟨u, rfl, (Option.some.inj hx).symm⟩
          have hu1 := unI_at hi' hu
          have hjl := (List.getElem?_eq_some_iff.mp hu).1
          rw [unI_len hi'] at hjl
          refine ⟨rfl, yes (iteT ⟨_, rfl, .int u, rfl, _, _, rfl, rfl, cmulW (a := 23500) (b := 1) ⟨?_, hw.2⟩ ?_ (by decide), ?_⟩)⟩
          · have := two_pos 23500
            generalize (2 : Int) ^ 23500 = z at *
            omega
          · rw [hu1]
            split <;> decide
          · exact turn_fn (xs := (unI i bs.length).map fun u => whole st * u) nD (by rw [List.getElem?_map, hu]; rfl) (by rw [List.length_map, unI_len hi']; omega) sj hD (Same.refl _)
        rw [List.length_map, unI_len hi', List.take_of_length_le (by rw [List.length_map, unI_len hi']; exact Nat.le_refl _)] at hD
        have s7 := s6'.trans (s3.trans sj)
        refine nilA ⟨l, z2, D, sa, st, bs.length, _, _, rfl, s7 _ _ hl, Sr.same s7, S.ech, n3, S.ent, S.few, .inl (hz2.same (s3.trans sj)), zeros_len _, .inr hD, by rw [List.length_map, unI_len hi'], zeros_ent (by have := two_pos 23500; omega), unI_ent hi' hw.1 hw.2, fun H7 t7 s7' ht7 he7 => ?_⟩
        have s8 := s7.trans s7'
        have p := besideX_ok S.ech hi' hn
        refine ⟨.ref b, rfl, .ref t7, rfl, b, t7, bs, _, 100, 60000, rfl, hb.same s8, .inl ht7, p.len.symm, by omega, hbe, he7, by decide, fun H8 s9 => ?_⟩
        refine ⟨_, rfl, rfl, _, rfl, ite2 (fun c2 => ?_) (fun c2 => ?_)⟩
        · have nz : dotI bs (besideX st bs.length i) ≠ 0 := fun z => by
            have c2' : (!decide (V.int (dotI bs (besideX st bs.length i)) = V.int 0)) = true := c2
            rw [z, decide_eq_true rfl] at c2'
            cases c2'
          refine ⟨.ref t7, rfl, _, rfl, _, rfl, nz, fun y y2 ym => ⟨sz_2 _ _, fun t9 nt9 => ?_⟩⟩
          have st9 := same_new (o := .tup [.ref t7, .int y]) nt9
          exact q2 i _ t9 t7 y hi' hn y2 ym (s8.trans (s9.trans st9)) upd_same (ht7.same (s9.trans st9)) he7
        · have ze : dotI bs (besideX st bs.length i) = 0 := by
            by_cases z : dotI bs (besideX st bs.length i) = 0
            · exact z
            · have c2' : ¬ (!decide (V.int (dotI bs (besideX st bs.length i)) = V.int 0)) = true := c2
              rw [decide_eq_false (fun w => z (V.int.inj w))] at c2'
              exact absurd rfl c2'
          refine ⟨s22.trans (st0.trans (s6.trans (s3.trans (sj.trans (s7'.trans s9))))), ⟨_, _, _, rfl⟩, fun g hg hgn => ?_⟩
          by_cases d : g < i
          · exact hno g d hgn
          · have e : g = i := by omega
            rw [e]
            exact ze
      · refine ⟨s22, ⟨_, _, _, rfl⟩, fun g hg hgn => ?_⟩
        by_cases d : g < i
        · exact hno g d hgn
        · have e : g = i := by omega
          subst e
          exfalso
          refine c1 ?_
          have : ¬ ((g : Int) ∈ st.map fun q => (q.1 : Int)) := fun z => by
            obtain ⟨q, hq, e⟩ := List.mem_map.mp z
            exact hgn q hq (by omega)
          rw [decide_eq_false this]
          rfl
    · obtain ⟨s22, ⟨y4, y5, y6, rfl⟩, hno⟩ := hI
      exact q1 (fun g hg hgn => hno g (by omega) hgn) _ (s2.trans s22)
end
end HL

set_option pp.maxSteps 3000
namespace HL
open PySem PySem.Spec PyProof.Rows L2
open C8 (pss_cut)
open LamX (CodeO Tabs TabS TabB ExtN tLam LamS lamS_by lamCx lamEnv codeO_ne)
section
variable {P : Program} {w : World} {K : PySem.W.Frag} {mg : Str → Option Value} {base : Heap}
def spRests (CB : Addr) (T : List (Addr × Str)) : Sp := fun vs H Q E => ∃ (p b : Addr) (as : List Addr) (ll : List (List Int)) (bs : List Int), vs = [.ref p, .ref b] ∧ RowsAt H p as ll ∧ flaw ll = none ∧ IntsAt H b bs ∧ bs.length ≤ 100 ∧ Tabs T H ∧
  (wrong (width ll : Nat) bs = none → (∀ H', ExtN H H' → Tabs T H' → Lat bs.length ll bs → Q .non H') ∧ ∀ H' t r x y, ExtN H H' → Tabs T H' → H' t = some (.tup [.ref r, .int y]) → IntsAt H' r x → Ent (2 ^ 60000) x → RestOk ll bs x y → Q (.ref t) H') ∧ (wrong (width ll : Nat) bs ≠ none → RefW CB "bad bill" H E)
theorem ok_rests {f : Addr} {fd : FuncData} {CB : Addr} {T : List (Addr × Str)} (F : Fun K "rests" "rests" sRests f fd) (CL : Cal P w K mg base (L2.CX P w) 4 "look_bill" ["lot", "bill"] (spLookBillR K CB)) (CS : Cal P w K mg base CX0 6 "stairs_of" ["lot"] (spStairs T)) (CP : Cal P w K mg base CX0 3 "rests_by_parts" ["stairs", "bill"] spParts) (CBe : Cal P w K mg base CX0 3 "rests_beside" ["stairs", "bill"] spBeside) : FnOk P w K mg base (L2.CX P w) 7 f fd ["lot", "bill"] (spRests CB T) := by
  obtain ⟨fL, fdL, GL, gL, kL, bL⟩ := CL.ex
  obtain ⟨fS, fdS, GS, gS, kS, bS⟩ := CS.ex
  obtain ⟨fP, fdP, GP, gP, kP, bP⟩ := CP.ex
  obtain ⟨fB, fdB, GB, gB, kB, bB⟩ := CBe.ex
  refine F.okX scRe (fun vs H Q E h => ?_) (fun cdv A outer s H vs Q E hr h => ?_)
  · obtain ⟨p, b, as, ll, bs, rfl, _⟩ := h
    rfl
  · obtain ⟨p, b, as, ll, bs, rfl, R, ef, hB, hbz, hT, q1, q2⟩ := h
    have hok := flaw_ok ef
    have hrw := flaw_rows ef
    refine ⟨_, (pss_cons (ps_expr (pe_call GL (hr.mono (by decide)) (by rfl) gL kL bL .nil (passes_call (takes_of rfl rfl rfl rfl) (fun _ _ _ _ h => h)) (pa_cons (pv 0) (pa_cons (pv 1) pa_nil))))
      (pss_cons (ps_set (i := 2) scRe.nd rfl (.inl rfl) (pe_call GS (hr.mono (by decide)) (by rfl) gS kS bS .nil pass0 (pa_cons (pv 0) pa_nil)))
      (pss_cons (ps_set (i := 3) scRe.nd rfl (.inl rfl) (pe_call GP (hr.mono (by decide)) (by rfl) gP kP bP .nil pass0 (pa_cons (pv 2) (pa_cons (pv 1) pa_nil))))
      (pss_one (ps_ret (pe_ifExp (pt_cmpR op_isN (pv 3) pe_non (nomark _)) (pe_call GB (hr.mono (by decide)) (by rfl) gB kB bB .nil pass0 (pa_cons (pv 2) (pa_cons (pv 1) pa_nil))) (pv 3))))))), ?_⟩
    refine ⟨.ref p, rfl, .ref b, rfl, p, b, as, ll, bs, rfl, R, ef, hB, hbz, fun ew H1 s1 => ?_, q2⟩
    obtain ⟨q3, q4⟩ := q1 ew
    obtain ⟨hbl0, hbb⟩ := wrong_ok ew
    have hbl : bs.length = width ll := by omega
    have hLl : Len bs.length ll := fun r hr => by rw [hbl]; exact (hrw r hr).1
    have hbe := bill_ent hbb
    refine ⟨.ref p, rfl, p, as, ll, rfl, R.same s1, ef, hT.ext s1, fun H2 l sa st E2 T2 nl hl Sr S0 => ?_⟩
    have S : StOk bs.length ll st := by rw [hbl]; exact S0
    have E12 : ExtN H H2 := (ExtN.of_same s1).trans E2
    have hB2 : IntsAt H2 b bs := E12 _ _ hB (fun ps z => by cases z)
    refine ⟨.ref l, rfl, .ref b, rfl, l, b, sa, st, ll, bs, rfl, hl, Sr, S, by omega, hB2, hbe, fun h1 H3 s3 => ?_, fun i q H3 t r hq nd s3 ht hr3 he => ?_⟩
    · refine ⟨.non, rfl, rfl, _, rfl, iteT ?_⟩
      refine ⟨.ref l, rfl, .ref b, rfl, l, b, sa, st, ll, bs, rfl, s3 _ _ hl, Sr.same s3, S, by omega, hB2.same s3, hbe, fun h2 H4 s4 => ?_, fun g H4 t r y hg hn y2 ym s4 ht hr4 he => ?_⟩
      · exact q3 H4 (E12.trans (ExtN.of_same (s3.trans s4))) (T2.ext (s3.trans s4)) (none_rest S hLl h1 h2)
      · exact q4 H4 t r _ y (E12.trans (ExtN.of_same (s3.trans s4))) (T2.ext (s3.trans s4)) ht hr4 he (beside_rest S hg hn y2 ym)
    · refine ⟨.ref t, rfl, rfl, _, rfl, iteF ⟨.ref t, rfl, ?_⟩⟩
      exact q4 H3 t r _ _ (E12.trans (ExtN.of_same s3)) (T2.ext s3) ht hr3 he (part_rest S hq nd)
end
theorem reB_len {ll : List (List Int)} {bs x : List Int} {y : Int} (h : x.length ≠ bs.length) : reB ll bs x y = false := by
  unfold reB
  rw [decide_eq_false h, Bool.false_and]
theorem reB_two {ll : List (List Int)} {bs x : List Int} {y : Int} (h : ¬ 2 ≤ y) : reB ll bs x y = false := by
  unfold reB
  rw [decide_eq_false h, Bool.false_and, Bool.and_false]
theorem reB_bill {ll : List (List Int)} {bs x : List Int} {y : Int} (h : dotI bs x % y = 0) : reB ll bs x y = false := by
  unfold reB
  rw [decide_eq_true h, Bool.not_true, Bool.false_and, Bool.and_false, Bool.and_false]
abbrev NRh : List Str := ["lot", "bill", "paper", "row", "by", "hold"]
theorem scRh : FnScope ["lot", "bill", "paper", "row", "by", "hold"] ["lot", "bill", "paper"] (defScope sReHold) := ⟨rfl, rfl, rfl, by decide +kernel, rfl, by decide +kernel, by decide +kernel⟩
section
variable {P : Program} {w : World} {K : PySem.W.Frag} {mg : Str → Option Value} {base : Heap}
def spReHold (CB : Addr) : Sp := fun vs H Q E => ∃ (p b t : Addr) (as : List Addr) (ll : List (List Int)) (bs : List Int), vs = [.ref p, .ref b, .ref t] ∧ RowsAt H p as ll ∧ flaw ll = none ∧ IntsAt H b bs ∧ bs.length ≤ 100 ∧
  (wrong (width ll : Nat) bs = none → ∃ (v : Addr) (x : List Int) (y : Int), H t = some (.tup [.ref v, .int y]) ∧ IntsAt H v x ∧ x.length ≤ 100 ∧ Ent (2 ^ 60000) x ∧ ∀ H', Same H H' → Q (.bl (reB ll bs x y)) H') ∧ (wrong (width ll : Nat) bs ≠ none → RefW CB "bad bill" H E)
theorem ok_reHold {f : Addr} {fd : FuncData} {CB : Addr} (F : Fun K "rests_hold" "rests_hold" sReHold f fd) (B : Bl mg) (CL : Cal P w K mg base (L2.CX P w) 4 "look_bill" ["lot", "bill"] (spLookBillR K CB)) (CW : Cal P w K mg base CX0 1 "weighed" ["row", "other"] spWeigh) : FnOk P w K mg base (L2.CX P w) 5 f fd ["lot", "bill", "paper"] (spReHold CB) := by
  obtain ⟨fL, fdL, GL, gL, kL, bL⟩ := CL.ex
  obtain ⟨fW, fdW, GW, gW, kW, bW⟩ := CW.ex
  refine F.okX scRh (fun vs H Q E h => ?_) (fun cdv A outer s H vs Q E hr h => ?_)
  · obtain ⟨p, b, t, as, ll, bs, rfl, _⟩ := h
    rfl
  · obtain ⟨p, b, t, as, ll, bs, rfl, R0, ef, hB0, hbz, q1, q2⟩ := h
    have hok := flaw_ok ef
    have hrw := flaw_rows ef
    refine ⟨_, (pss_cons (ps_expr (pe_call GL hr (by rfl) gL kL bL .nil (passes_call (takes_of rfl rfl rfl rfl) (fun _ _ _ _ h => h)) (pa_cons (pv 0) (pa_cons (pv 1) pa_nil))))
      (pss_cons (ps_asg (pv 2) (pg_tup rfl (pgs_cons (pg_name (i := 3) scRh.nd rfl (.inr rfl)) (pgs_cons (pg_name (i := 4) scRh.nd rfl (.inr rfl)) pgs_nil))))
      (pss_cons (ps_if (PW.pt (pw_or (pt_cmpR op_ne (pe_callB call_len_seq (by rfl) B.len PySem.boot_len (pa_cons (pv 3) pa_nil)) (pe_callB call_len_seq (by rfl) B.len PySem.boot_len (pa_cons (pv 1) pa_nil)) (nomark _)) (pw_or (pt_cmpR op_lt (pv 4) pe_int (nomark _)) (pw_or1 (pt_cmpR op_eq (pe_op op_mod (pe_call GW (hr.mono (by decide)) (by rfl) gW kW bW .nil pass0 (pa_cons (pv 1) (pa_cons (pv 3) pa_nil))) (pv 4)) pe_int (nomark _)))))) (pss_one (ps_ret pe_bl)) pss_nil)
      (pss_one (ps_ret (pe_callB (cr_all rfl) (by rfl) B.all (by decide +kernel) (pa_cons (pe_lc (own := [("hold", 5)]) (g := gName 5) (tt := tYes) (te := tOp rEq (tOp (rI (fun _ j => 0 < j) fun i j => .int (i % j)) (tCall spWeigh [] E0 (tCons (tVar 5) (tCons (tVar 3) tNil))) (tVar 4)) (tC (.int 0))) rfl scRh.nd (pi_tup (pv 0))
        (blkOk_by (own := [("hold", 5)]) (N := NRh) (sc := defScope sReHold) (by decide +kernel)) (fun _ _ _ _ _ => pg_name (i := 5) scRh.nd rfl (Or.inl rfl)) (fun _ _ _ _ _ => pts_nil)
        (fun _ _ _ _ _ => (pe_cmpR op_eq (pe_op op_mod (pe_call GW (hr.mono (by decide)) (by rfl) gW kW bW .nil pass0 (pa_cons (pv 5) (pa_cons (pv 3) pa_nil))) (pv 4)) pe_int (nomark _)))) pa_nil))))))), ?_⟩
    refine ⟨.ref p, rfl, .ref b, rfl, p, b, as, ll, bs, rfl, R0, ef, hB0, hbz, fun ew H0 s0 => ?_, q2⟩
    obtain ⟨v, x, y, ht, hV0, hxz, hxe, q0⟩ := q1 ew
    obtain ⟨hbl0, hbb⟩ := wrong_ok ew
    have hbl : bs.length = width ll := by omega
    have hbe := bill_ent hbb
    have R := R0.same s0
    have hB := hB0.same s0
    have hV := hV0.same s0
    have q : ∀ H', Same H0 H' → Q (.bl (reB ll bs x y)) H' := fun H' s' => q0 H' (s0.trans s')
    refine ⟨.ref t, rfl, t, _, rfl, SqT.of (s0 _ _ ht), rfl, _, _, rfl, _, _, rfl, rfl, ?_⟩
    refine ⟨.ref v, rfl, v, _, rfl, .inr (SqT.of hV), .ref b, rfl, b, _, rfl, .inr (SqT.of hB), rfl, _, rfl, ?_⟩
    rw [List.length_map, List.length_map]
    refine ite2 (fun c1 => ?_) (fun c1 => ?_)
    · have ne : x.length ≠ bs.length := fun e => by
        rw [e, decide_eq_true rfl] at c1
        cases c1
      have := q H0 (Same.refl _)
      rw [reB_len ne] at this
      exact this
    have epl : x.length = bs.length := by
      by_cases e : x.length = bs.length
      · exact e
      · rw [decide_eq_false (fun z => e (by have := V.int.inj z; omega))] at c1
        exact absurd rfl c1
    refine ⟨.int y, rfl, y, 2, rfl, rfl, _, rfl, ite2 (fun c2 => ?_) (fun c2 => ?_)⟩
    · have := q H0 (Same.refl _)
      rw [reB_two (by have : y < 2 := of_decide_eq_true c2; omega)] at this
      exact this
    have c2' : 2 ≤ y := by
      by_cases z : y < 2
      · exact absurd (decide_eq_true z) c2
      · omega
    refine ⟨.ref b, rfl, .ref v, rfl, b, v, bs, x, 100, 60000, rfl, hB, .inl hV, epl.symm, hbz, hbe, hxe, by decide, fun H1 s1 => ?_⟩
    refine ⟨.int y, rfl, _, _, rfl, rfl, (by show (0 : Int) < y; omega), rfl, _, rfl, ite2 (fun c3 => ?_) (fun c3 => ?_)⟩
    · have c3' : dotI bs x % y = 0 := V.int.inj (of_decide_eq_true c3)
      have := q H1 s1
      rw [reB_bill c3'] at this
      exact this
    have c3' : ¬ dotI bs x % y = 0 := fun z => c3 (decide_eq_true (congrArg V.int z))
    refine ⟨.ref p, rfl, p, rfl, ⟨_, SqT.of (R.same s1).1⟩, fun D nD => ?_⟩
    have hal := R.2.len
    refine lc_tup (K := K) (a := p) (xs := as.map V.ref) (fun i H' => Same H1 H' ∧ H' D = some (.lst (((ll.take i).map fun h => decide (dotI h x % y = 0)).map V.bl))) ⟨same_new nD, upd_same⟩ (fun i H' _ hP => SqT.of ((R.same s1).same hP.1).1) (fun i z H' hx ⟨sm, hD⟩ => ?_) (fun H' ⟨sm, hD⟩ => ?_)
    · obtain ⟨c, hc, rfl⟩ := refAt hx
      obtain ⟨h, hr1, hr2⟩ := ((R.same s1).same sm).2.at hc
      have hr2 : IntsAt H' c h := hr2
      have hmem := List.mem_of_getElem? hr1
      have hhl := (hrw h hmem).1
      have hhe : Ent (2 ^ 3) h := lot_ent ef h hmem
      refine ⟨rfl, yes (iteT ?_)⟩
      refine ⟨.ref c, rfl, .ref v, rfl, nilA ⟨c, v, h, x, 3, 60000, rfl, hr2, .inl ((hV.same s1).same sm), by rw [epl, hbl, hhl], by rw [hhl]; omega, hhe, hxe, by decide, fun H3 s3 => ?_⟩⟩
      refine ⟨.int y, rfl, _, _, rfl, rfl, (by show (0 : Int) < y; omega), rfl, _, s3 _ _ hD, ?_, same_late (sm.trans s3) nD, ?_⟩
      · rw [List.length_map, List.length_map]
        exact small1000 (Nat.le_trans (List.length_take_le' _ _) (by omega))
      · rw [upd_same, List.take_add_one, hr1, List.map_append, List.map_append]
        have e : decide (V.int (dotI h x % y) = V.int 0) = decide (dotI h x % y = 0) := by
          by_cases c : dotI h x % y = 0
          · rw [decide_eq_true c, decide_eq_true (congrArg V.int c)]
          · rw [decide_eq_false c, decide_eq_false (fun z => c (V.int.inj z))]
        show some (HO.lst (_ ++ [V.bl (decide (V.int (dotI h x % y) = V.int 0))])) = _
        rw [e]
        rfl
    · rw [List.length_map, hal, List.take_length] at hD
      have := q H' (s1.trans sm)
      unfold reB at this
      rw [decide_eq_true epl, decide_eq_true c2', decide_eq_false c3', Bool.true_and, Bool.true_and, Bool.not_false, Bool.true_and] at this
      have e : (ll.map fun h => decide (dotI h x % y = 0)).all id = ll.all fun h => decide (dotI h x % y = 0) := by
        rw [List.all_map]
        rfl
      rw [← e] at this
      exact ⟨D, _, rfl, SqL.of hD, this⟩
end
end HL

set_option pp.maxSteps 3000
namespace HL
open PySem PySem.Spec PyProof.Rows L2
open C8 (pss_cut)
theorem scPh : FnScope ["lot", "bill", "paper"] ["lot", "bill", "paper"] (defScope sPrHold) := ⟨rfl, rfl, rfl, by decide +kernel, rfl, by decide +kernel, by decide +kernel⟩
theorem scOp : FnScope ["row", "number"] ["row"] (defScope sOpp) := ⟨rfl, rfl, rfl, by decide +kernel, rfl, by decide +kernel, by decide +kernel⟩
theorem scAr : FnScope ["lot", "bill", "paper", "hold"] ["lot", "bill", "paper"] (defScope sArePr) := ⟨rfl, rfl, rfl, by decide +kernel, rfl, by decide +kernel, by decide +kernel⟩
theorem scUp : FnScope ["row", "other", "first", "second", "third", "left", "middle", "right"] ["row", "other"] (defScope sUpright) := ⟨rfl, rfl, rfl, by decide +kernel, rfl, by decide +kernel, by decide +kernel⟩
def prB (ll : List (List Int)) (b p : List Int) : Bool := decide (p.length = b.length) && (decide (dotI b p < 0) && ll.all fun r => decide (0 ≤ dotI r p))
def upI (r o : List Int) : List Int := [r.getD 1 0 * o.getD 2 0 - r.getD 2 0 * o.getD 1 0, r.getD 2 0 * o.getD 0 0 - r.getD 0 0 * o.getD 2 0, r.getD 0 0 * o.getD 1 0 - r.getD 1 0 * o.getD 0 0]
theorem smallM {n : Nat} (h : n ≤ 1000000) : n < sizeLine := Nat.lt_of_le_of_lt h (by decide)
theorem IntsAt.put {H : Hp} {a D : Addr} {ns : List Int} {xs ys : List V} (x : IntsAt H a ns) (hD : H D = some (.lst xs)) : IntsAt (upd H D (.lst ys)) a ns := x.lput hD
theorem bnd_ent {xs : List Int} (h : Bnd xs) : Ent (2 ^ 20) xs := fun x hx => by
  have := h x hx
  have e : (2 : Int) ^ 20 = 1048576 := by decide
  rw [e]
  omega
section
variable {P : Program} {w : World} {K : PySem.W.Frag} {mg : Str → Option Value} {base : Heap}
def spOpp : Sp := fun vs H Q _ => ∃ (a : Addr) (xs : List Int), vs = [.ref a] ∧ IntsAt H a xs ∧ xs.length ≤ 100 ∧ ∀ H' p, Same H H' → IntsAt H' p (xs.map fun n => -n) → Q (.ref p) H'
theorem ok_opp {f : Addr} {fd : FuncData} {k : Nat} (F : Fun K "opposite" "opposite" sOpp f fd) (B : Bl mg) : FnOk P w K mg base CX0 (k + 1) f fd ["row"] spOpp := by
  refine F.ok scOp (fun vs H Q E h => ?_) (fun cdv A outer s H vs Q E hr h => ?_)
  · obtain ⟨a, xs, rfl, _⟩ := h
    rfl
  · obtain ⟨a, xs, rfl, ha, hz, q⟩ := h
    refine ⟨_, (pss_one (ps_ret (pe_callTy call_tuple_of (by rfl) B.tuple (by decide +kernel) (pa_cons (pe_lc (own := [("number", 1)]) (g := gName 1) (tt := tYes) rfl scOp.nd (pi_tup (pv 0))
        (blkOk_by (own := [("number", 1)]) (N := ["row", "number"]) (sc := defScope sOpp) (by decide +kernel)) (fun _ _ _ _ _ => pg_name (i := 1) scOp.nd rfl (Or.inl rfl)) (fun _ _ _ _ _ => pts_nil)
        (fun _ _ _ _ _ => (pe_un un_neg (pv 1)))) pa_nil)))), ?_⟩
    refine ⟨.ref a, rfl, a, rfl, ⟨_, SqT.of ha⟩, fun D nD => ?_⟩
    refine lc_tup (K := K) (a := a) (xs := xs.map V.int) (fun i H' => Same H H' ∧ H' D = some (.lst (((xs.map fun n => -n).take i).map V.int))) ⟨same_new nD, upd_same⟩ (fun i H' _ hP => SqT.of (ha.same hP.1)) (fun i x H' hx ⟨sm, hD⟩ => ?_) (fun H' ⟨sm, hD⟩ => ?_)
    · obtain ⟨n, hn, rfl⟩ : ∃ n, xs[i]? = some n ∧ x = V.int n := by
        rw [List.getElem?_map] at hx
        cases e : xs[i]? with
        | none => rw [e] at hx; cases hx
        | some n => rw [e] at hx; exact ⟨n, rfl, (Option.some.inj hx).symm⟩
      refine ⟨rfl, yes (iteT ⟨.int n, rfl, n, rfl, ?_⟩)⟩
      exact turn_fn (xs := xs.map fun n => -n) nD (by rw [List.getElem?_map, hn]; rfl) (by rw [List.length_map]; omega) sm hD (Same.refl _)
    · rw [List.length_map, List.take_of_length_le (by rw [List.length_map]; exact Nat.le_refl _)] at hD
      exact ⟨D, _, rfl, .inl ⟨SqL.of hD, fun z nz => q _ z (sm.trans (same_new nz)) upd_same⟩⟩
def spArePr : Sp := fun vs H Q _ => ∃ (p b v : Addr) (as : List Addr) (ll : List (List Int)) (bs ps : List Int), vs = [.ref p, .ref b, .ref v] ∧ RowsAt H p as ll ∧ ll.length ≤ 100 ∧ (∀ r ∈ ll, r.length = bs.length ∧ Bnd r) ∧ IntsAt H b bs ∧ IntsAt H v ps ∧ bs.length ≤ 100 ∧ ps.length ≤ 100 ∧ Ent (2 ^ 100) bs ∧ Bnd ps ∧ ∀ H', Same H H' → Q (.bl (prB ll bs ps)) H'
theorem ok_arePr {f : Addr} {fd : FuncData} (F : Fun K "are_prices" "are_prices" sArePr f fd) (B : Bl mg) (CW : Cal P w K mg base CX0 1 "weighed" ["row", "other"] spWeigh) : FnOk P w K mg base CX0 2 f fd ["lot", "bill", "paper"] spArePr := by
  obtain ⟨fW, fdW, GW, gW, kW, bW⟩ := CW.ex
  refine F.ok scAr (fun vs H Q E h => ?_) (fun cdv A outer s H vs Q E hr h => ?_)
  · obtain ⟨p, b, v, as, ll, bs, ps, rfl, _⟩ := h
    rfl
  · obtain ⟨p, b, v, as, ll, bs, ps, rfl, R, hz, hrow, hB, hV, hbz, hpz, hbe, hbd, q⟩ := h
    refine ⟨_, (pss_cons (ps_if (PW.pt (pw_or (pt_cmpR op_ne (pe_callB call_len_seq (by rfl) B.len PySem.boot_len (pa_cons (pv 2) pa_nil)) (pe_callB call_len_seq (by rfl) B.len PySem.boot_len (pa_cons (pv 1) pa_nil)) (nomark _)) (pw_or1 (pt_cmpR op_ge (pe_call GW hr (by rfl) gW kW bW .nil pass0 (pa_cons (pv 1) (pa_cons (pv 2) pa_nil))) pe_int (nomark _))))) (pss_one (ps_ret pe_bl)) pss_nil)
      (pss_one (ps_ret (pe_callB (cr_all rfl) (by rfl) B.all (by decide +kernel) (pa_cons (pe_lc (own := [("hold", 3)]) (g := gName 3) (tt := tYes) rfl scAr.nd (pi_tup (pv 0))
        (blkOk_by (own := [("hold", 3)]) (N := ["lot", "bill", "paper", "hold"]) (sc := defScope sArePr) (by decide +kernel)) (fun _ _ _ _ _ => pg_name (i := 3) scAr.nd rfl (Or.inl rfl)) (fun _ _ _ _ _ => pts_nil)
        (fun _ _ _ _ _ => (pe_cmpR op_ge (pe_call GW hr (by rfl) gW kW bW .nil pass0 (pa_cons (pv 3) (pa_cons (pv 2) pa_nil))) pe_int (nomark _)))) pa_nil))))), ?_⟩
    refine ⟨.ref v, rfl, v, _, rfl, .inr (SqT.of hV), .ref b, rfl, b, _, rfl, .inr (SqT.of hB), rfl, _, rfl, ?_⟩
    rw [List.length_map, List.length_map]
    refine ite2 (fun c1 => ?_) (fun c1 => ?_)
    · have ne : ps.length ≠ bs.length := fun e => by
        rw [e, decide_eq_true rfl] at c1
        cases c1
      have := q H (Same.refl _)
      unfold prB at this
      rw [decide_eq_false ne, Bool.false_and] at this
      exact this
    have epl : ps.length = bs.length := by
      by_cases e : ps.length = bs.length
      · exact e
      · rw [decide_eq_false (fun z => e (by have := V.int.inj z; omega))] at c1
        exact absurd rfl c1
    refine ⟨.ref b, rfl, .ref v, rfl, b, v, bs, ps, 100, 20, rfl, hB, .inl hV, epl.symm, hbz, hbe, bnd_ent hbd, by decide, fun H1 s1 => ⟨_, 0, rfl, rfl, _, rfl, ?_⟩⟩
    refine ite2 (fun c2 => ?_) (fun c2 => ?_)
    · have c2' : 0 ≤ dotI bs ps := of_decide_eq_true c2
      have := q H1 s1
      unfold prB at this
      rw [decide_eq_false (show ¬ dotI bs ps < 0 by omega), Bool.false_and, Bool.and_false] at this
      exact this
    have c2' : dotI bs ps < 0 := by
      by_cases z : 0 ≤ dotI bs ps
      · exact absurd (decide_eq_true z) c2
      · omega
    refine ⟨.ref p, rfl, p, rfl, ⟨_, SqT.of (R.same s1).1⟩, fun D nD => ?_⟩
    have hal := R.2.len
    refine lc_tup (K := K) (a := p) (xs := as.map V.ref) (fun i H' => Same H1 H' ∧ H' D = some (.lst (((ll.take i).map fun r => decide (0 ≤ dotI r ps)).map V.bl))) ⟨same_new nD, upd_same⟩ (fun i H' _ hP => SqT.of ((R.same s1).same hP.1).1) (fun i x H' hx ⟨sm, hD⟩ => ?_) (fun H' ⟨sm, hD⟩ => ?_)
    · obtain ⟨c, hc, rfl⟩ : ∃ c, as[i]? = some c ∧ x = V.ref c := by
        rw [List.getElem?_map] at hx
        cases e : as[i]? with
        | none => rw [e] at hx; cases hx
        | some c => rw [e] at hx; exact ⟨c, rfl, (Option.some.inj hx).symm⟩
      obtain ⟨r, hr1, hr2⟩ := ((R.same s1).same sm).2.at hc
      obtain ⟨k1, k2⟩ := hrow r (List.mem_of_getElem? hr1)
      refine ⟨rfl, yes (iteT ?_)⟩
      refine ⟨.ref c, rfl, .ref v, rfl, c, v, r, ps, 20, 20, rfl, hr2, .inl ((hV.same s1).same sm), by omega, by omega, bnd_ent k2, bnd_ent hbd, by decide, fun H3 s3 => ?_⟩
      refine ⟨_, 0, rfl, rfl, _, s3 _ _ hD, ?_, same_late (sm.trans s3) nD, ?_⟩
      · rw [List.length_map, List.length_map]
        exact small1000 (Nat.le_trans (List.length_take_le' _ _) (by omega))
      · rw [upd_same, List.take_add_one, hr1, List.map_append, List.map_append]
        rfl
    · rw [List.length_map, hal, List.take_length] at hD
      have := q H' (s1.trans sm)
      unfold prB at this
      rw [decide_eq_true epl, decide_eq_true c2', Bool.true_and, Bool.true_and] at this
      have e : (ll.map fun r => decide (0 ≤ dotI r ps)).all id = ll.all fun r => decide (0 ≤ dotI r ps) := by
        rw [List.all_map]
        rfl
      rw [← e] at this
      exact ⟨D, _, rfl, SqL.of hD, this⟩
def spUp : Sp := fun vs H Q _ => ∃ (a b : Addr) (xs ys : List Int), vs = [.ref a, .ref b] ∧ IntsAt H a xs ∧ IntsAt H b ys ∧ xs.length = 3 ∧ ys.length = 3 ∧ Bnd xs ∧ ∀ H' p, Same H H' → IntsAt H' p (upI xs ys) → Q (.ref p) H'
theorem ok_up {f : Addr} {fd : FuncData} {k : Nat} (F : Fun K "upright" "upright" sUpright f fd) : FnOk P w K mg base CX0 (k + 1) f fd ["row", "other"] spUp := by
  refine F.ok scUp (fun vs H Q E h => ?_) (fun cdv A outer s H vs Q E hr h => ?_)
  · obtain ⟨a, b, xs, ys, rfl, _⟩ := h
    rfl
  · obtain ⟨a, b, xs, ys, rfl, ha, hb, hx, hy, hbd, q⟩ := h
    refine ⟨_, (pss_cons (ps_asg (pv 0) (pg_tup rfl (pgs_cons (pg_name (i := 2) scUp.nd rfl (.inl rfl)) (pgs_cons (pg_name (i := 3) scUp.nd rfl (.inl rfl)) (pgs_cons (pg_name (i := 4) scUp.nd rfl (.inl rfl)) pgs_nil)))))
      (pss_cons (ps_asg (pv 1) (pg_tup rfl (pgs_cons (pg_name (i := 5) scUp.nd rfl (.inl rfl)) (pgs_cons (pg_name (i := 6) scUp.nd rfl (.inl rfl)) (pgs_cons (pg_name (i := 7) scUp.nd rfl (.inl rfl)) pgs_nil)))))
      (pss_one (ps_ret (pe_tup (pa_cons (pe_op op_sub (pe_op op_mul (pv 3) (pv 7)) (pe_op op_mul (pv 4) (pv 6))) (pa_cons (pe_op op_sub (pe_op op_mul (pv 4) (pv 5)) (pe_op op_mul (pv 2) (pv 7))) (pa_cons (pe_op op_sub (pe_op op_mul (pv 2) (pv 6)) (pe_op op_mul (pv 3) (pv 5))) pa_nil)))))))), ?_⟩
    obtain ⟨x0, x1, x2, rfl⟩ : ∃ x0 x1 x2, xs = [x0, x1, x2] := by
      match xs, hx with
      | [x0, x1, x2], _ => exact ⟨x0, x1, x2, rfl⟩
    obtain ⟨y0, y1, y2, rfl⟩ : ∃ y0 y1 y2, ys = [y0, y1, y2] := by
      match ys, hy with
      | [y0, y1, y2], _ => exact ⟨y0, y1, y2, rfl⟩
    have b0 := hbd x0 (by simp)
    have b1 := hbd x1 (by simp)
    have b2 := hbd x2 (by simp)
    have ha' : H a = some (.tup [.int x0, .int x1, .int x2]) := ha
    have hb' : H b = some (.tup [.int y0, .int y1, .int y2]) := hb
    have c0 : ∀ y, CMul x0 y := fun y => .inl ⟨by omega, by omega⟩
    have c1 : ∀ y, CMul x1 y := fun y => .inl ⟨by omega, by omega⟩
    have c2 : ∀ y, CMul x2 y := fun y => .inl ⟨by omega, by omega⟩
    refine ⟨.ref a, rfl, a, _, rfl, SqT.of ha', rfl, _, _, rfl, _, _, rfl, _, _, rfl, rfl, ?_⟩
    refine ⟨.ref b, rfl, b, _, rfl, SqT.of hb', rfl, _, _, rfl, _, _, rfl, _, _, rfl, rfl, ?_⟩
    refine ⟨_, rfl, _, rfl, _, _, rfl, rfl, c1 _, _, rfl, _, rfl, _, _, rfl, rfl, c2 _, _, _, rfl, rfl, ?_⟩
    refine ⟨_, rfl, _, rfl, _, _, rfl, rfl, c2 _, _, rfl, _, rfl, _, _, rfl, rfl, c0 _, _, _, rfl, rfl, ?_⟩
    refine ⟨_, rfl, _, rfl, _, _, rfl, rfl, c0 _, _, rfl, _, rfl, _, _, rfl, rfl, c1 _, _, _, rfl, rfl, ?_⟩
    exact ⟨(by show 3 ≤ sizeLine; decide), fun p np => q _ p (same_new np) upd_same⟩
end
def wideL (ll : List (List Int)) : List (List Int) := ll.map fun r => r ++ zeros (3 - width ll)
def othL (ll : List (List Int)) : List (List Int) := wideL ll ++ (List.range 3).map fun g => unI g 3
def rowL (ll : List (List Int)) : List (List Int) := (wideL ll).flatMap fun r => (othL ll).map fun o => (upI r o).take (width ll)
def priceL (ll : List (List Int)) : List (List Int) := rowL ll ++ (rowL ll).map fun r => r.map fun n => -n
/-- one more row in a list of rows -/
theorem row_more {H3 H4 H5 : Hp} {D cb : Addr} {acc : List (List Int)} {cc : List Int} (nD : H3 D = none) (s34 : Same H3 H4) (hds : ∃ ds : List Addr, H4 D = some (.lst (ds.map V.ref)) ∧ Rows H4 ds acc) (few : acc.length ≤ 1000000) (s45 : Same H4 H5) (hcb : IntsAt H5 cb cc) :
    ∃ ac, H5 D = some (.lst ac) ∧ ac.length < sizeLine ∧ Same H3 (upd H5 D (.lst (ac ++ [.ref cb]))) ∧ ∃ ds : List Addr, upd H5 D (.lst (ac ++ [.ref cb])) D = some (.lst (ds.map V.ref)) ∧ Rows (upd H5 D (.lst (ac ++ [.ref cb]))) ds (acc ++ [cc]) := by
  obtain ⟨ds, hd, hdr⟩ := hds
  have hd5 := s45 _ _ hd
  refine ⟨_, hd5, ?_, same_late (s34.trans s45) nD, ds ++ [cb], ?_, ?_⟩
  · rw [List.length_map, hdr.len]
    exact smallM few
  · rw [upd_same, List.map_append]
    rfl
  · exact ((hdr.same s45).lput hd5).app ⟨hcb.put hd5, True.intro⟩
theorem ref_at {as : List Addr} {i : Nat} {x : V} (hx : (as.map V.ref)[i]? = some x) : ∃ c, as[i]? = some c ∧ x = V.ref c := by
  rw [List.getElem?_map] at hx
  cases e : as[i]? with
  | none => rw [e] at hx; cases hx
  | some c => rw [e] at hx; exact ⟨c, rfl, (Option.some.inj hx).symm⟩
abbrev NPr : List Str := ["lot", "goods", "wide", "others", "rows", "good", "hold", "other", "row"]
theorem scPr : FnScope NPr ["lot"] (defScope sPrRows) := ⟨rfl, rfl, rfl, by decide +kernel, rfl, by decide +kernel, by decide +kernel⟩
theorem scPs : FnScope ["lot", "bill", "paper"] ["lot", "bill"] (defScope sPrices) := ⟨rfl, rfl, rfl, by decide +kernel, rfl, by decide +kernel, by decide +kernel⟩
theorem wide_ok {ll : List (List Int)} (ef : flaw ll = none) : ∀ r ∈ wideL ll, r.length = 3 ∧ ∀ n ∈ r, 0 ≤ n ∧ n ≤ 6 := fun r hr => by
  obtain ⟨s, hs, rfl⟩ := List.mem_map.mp hr
  have hok := flaw_ok ef
  obtain ⟨h1, h2⟩ := flaw_rows ef s hs
  refine ⟨by rw [List.length_append, zeros_len, h1]; omega, fun n hn => ?_⟩
  rcases List.mem_append.mp hn with h | h
  · exact h2 n h
  · rw [List.eq_of_mem_replicate h]
    decide
theorem un_len {g n : Nat} (h : g < n) : (unI g n).length = n := by
  unfold unI
  rw [List.length_append, List.length_append, zeros_len, zeros_len, List.length_singleton]
  omega
theorem oth_len {ll : List (List Int)} (ef : flaw ll = none) : ∀ r ∈ othL ll, r.length = 3 := fun r hr => by
  rcases List.mem_append.mp hr with h | h
  · exact (wide_ok ef r h).1
  · obtain ⟨g, hg, rfl⟩ := List.mem_map.mp h
    exact un_len (List.mem_range.mp hg)
section
variable {P : Program} {w : World} {K : PySem.W.Frag} {mg : Str → Option Value} {base : Heap}
def spPrRows : Sp := fun vs H Q _ => ∃ (p : Addr) (as : List Addr) (ll : List (List Int)), vs = [.ref p] ∧ RowsAt H p as ll ∧ flaw ll = none ∧ ∀ H' l ds, Same H H' → H' l = some (.lst (ds.map V.ref)) → Rows H' ds (priceL ll) → Q (.ref l) H'
theorem ok_prRows {f : Addr} {fd : FuncData} (F : Fun K "price_rows" "price_rows" sPrRows f fd) (B : Bl mg) (m3 : ∃ t, mg "MOST_GOODS" = some (.int 3 t)) (CG : Cal P w K mg base CX0 3 "goods_of" ["lot"] spGoods0) (CU : Cal P w K mg base CX0 1 "unit" ["place", "many"] spUnit) (CP : Cal P w K mg base CX0 1 "upright" ["row", "other"] spUp) (CO : Cal P w K mg base CX0 1 "opposite" ["row"] spOpp) : FnOk P w K mg base CX0 4 f fd ["lot"] spPrRows := by
  obtain ⟨t3, m3⟩ := m3
  obtain ⟨fG, fdG, GG, gG, kG, bG⟩ := CG.ex
  obtain ⟨fU, fdU, GU, gU, kU, bU⟩ := CU.ex
  obtain ⟨fP, fdP, GP, gP, kP, bP⟩ := CP.ex
  obtain ⟨fO, fdO, GO, gO, kO, bO⟩ := CO.ex
  refine F.ok scPr (fun vs H Q E h => ?_) (fun cdv A outer s H vs Q E hr h => ?_)
  · obtain ⟨p, as, ll, rfl, _⟩ := h
    rfl
  · obtain ⟨p, as, ll, rfl, R, ef, q⟩ := h
    refine ⟨_, (pss_cons (ps_set (i := 1) scPr.nd rfl (.inr rfl) (pe_call GG hr (by rfl) gG kG bG .nil pass0 (pa_cons (pv 0) pa_nil)))
      (pss_cons (ps_setLc (i := 2) (own := [("hold", 6)]) (g := gName 6) (tt := tYes) (te := tOp (rCatA K) (tVar 6) (tOp (rRepN K) (tTup (tCons (tC (.int 0)) tNil)) (tOp (rI0 fun i j => .int (i - j)) (tC (.int 3)) (tVar 1)))) rfl scPr.nd rfl rfl (sw_true rfl rfl rfl (by decide +kernel)) (pi_tup (pv 0))
        (blkOk_by (own := [("hold", 6)]) (N := NPr) (sc := defScope sPrRows) (by decide +kernel)) (fun _ _ _ _ _ => pg_name (i := 6) scPr.nd rfl (Or.inl rfl)) (fun _ _ _ _ _ => pts_nil)
        (fun _ _ _ _ _ => (pe_op op_catA (pv 6) (pe_op op_repN (pe_tup (pa_cons pe_int pa_nil)) (pe_op op_sub (pe_glob (v := .int 3) (by rfl) m3 ⟨_, rfl⟩) (pv 1))))))
      (pss_cons (ps_set (i := 3) scPr.nd rfl (.inr rfl) (pe_op op_cat (pv 2) (pe_lc (own := [("good", 5)]) (g := gName 5) (tt := tYes) rfl scPr.nd (pi_range1 (by rfl) B.range (pa_cons (pe_glob (v := .int 3) (by rfl) m3 ⟨_, rfl⟩) pa_nil))
        (blkOk_by (own := [("good", 5)]) (N := NPr) (sc := defScope sPrRows) (by decide +kernel)) (fun _ _ _ _ _ => pg_name (i := 5) scPr.nd rfl (Or.inl rfl)) (fun _ _ _ _ _ => pts_nil)
        (fun _ _ _ _ _ => (pe_call GU (hr.mono (by decide)) (by rfl) gU kU bU .nil pass0 (pa_cons (pv 5) (pa_cons (pe_glob (v := .int 3) (by rfl) m3 ⟨_, rfl⟩) pa_nil)))))))
      (pss_cons (ps_setLc2 (i := 4) (wi1 := iList K (tVar 3)) (own := [("row", 8), ("other", 7)]) (vs1 := [7]) (g := gName 8) (g1 := gName 7) (tt := tYes) (tt1 := tYes) (te := tSl (rSlA K) (tCall spUp [] E0 (tCons (tVar 8) (tCons (tVar 7) tNil))) tNoPart (tPart (tVar 1))) rfl scPr.nd rfl rfl (sw_true rfl rfl rfl (by decide +kernel)) (pi_list (pv 2))
        (blkOk_by (own := [("row", 8), ("other", 7)]) (N := NPr) (sc := defScope sPrRows) (by decide +kernel)) (by decide) (fun _ _ _ _ _ => pg_name (i := 8) scPr.nd rfl (Or.inl rfl)) (fun _ _ _ _ _ => pts_nil)
        (fun _ _ _ _ _ => pi_list (pv 3)) (fun _ _ _ _ _ => pg_name (i := 7) scPr.nd rfl (Or.inl rfl)) (fun _ _ _ _ _ => pts_nil)
        (fun _ _ _ _ _ => pe_slice sl_tupA (pe_call GP (hr.mono (by decide)) (by rfl) gP kP bP .nil pass0 (pa_cons (pv 8) (pa_cons (pv 7) pa_nil))) po_none (po_some (pv 1))))
      (pss_one (ps_ret (pe_op op_cat (pv 4) (pe_lc (own := [("row", 8)]) (g := gName 8) (tt := tYes) rfl scPr.nd (pi_list (pv 4))
        (blkOk_by (own := [("row", 8)]) (N := NPr) (sc := defScope sPrRows) (by decide +kernel)) (fun _ _ _ _ _ => pg_name (i := 8) scPr.nd rfl (Or.inl rfl)) (fun _ _ _ _ _ => pts_nil)
        (fun _ _ _ _ _ => (pe_call GO (hr.mono (by decide)) (by rfl) gO kO bO .nil pass0 (pa_cons (pv 8) pa_nil))))))))))), ?_⟩
    have hok := flaw_ok ef
    have hal := R.2.len
    refine ⟨.ref p, rfl, p, as, ll, rfl, R, ef, fun H1 s1 => ?_⟩
    have R1 := R.same s1
    have g3 : width ll ≤ 3 := hok.2.2.2
    refine ⟨.ref p, rfl, p, rfl, ⟨_, SqT.of R1.1⟩, fun D nD => ?_⟩
    have rowsOf : ∀ (H' : Hp), (∃ ds : List Addr, H' D = some (.lst (ds.map V.ref)) ∧ Rows H' ds (wideL ll)) → ∃ ds : List Addr, H' D = some (.lst (ds.map V.ref)) ∧ Rows H' ds (wideL ll) := fun _ h => h
    refine lc_tup (K := K) (a := p) (xs := as.map V.ref) (fun i H' => Same H1 H' ∧ ∃ ds : List Addr, H' D = some (.lst (ds.map V.ref)) ∧ Rows H' ds ((ll.take i).map fun r => r ++ zeros (3 - width ll))) ⟨same_new nD, [], upd_same, by rw [List.take_zero]; exact True.intro⟩ (fun i H' _ hP => SqT.of (R1.same hP.1).1) (fun i x H' hx ⟨sm, hds⟩ => ?_) (fun H2 ⟨s2, hds⟩ => ?_)
    · obtain ⟨c, hc, rfl⟩ := ref_at hx
      obtain ⟨r, hr1, hr2⟩ := (R1.same sm).2.at hc
      have hrl := (flaw_rows ef r (List.mem_of_getElem? hr1)).1
      refine ⟨rfl, yes (iteT ?_)⟩
      refine ⟨.ref c, rfl, sz_1 _, fun t nt => ⟨.int (width ll : Nat), rfl, 3, _, rfl, rfl, repN_read (n := 3 - width ll) upd_same (by omega) (by omega) fun z H3 s3 hz => ?_⟩⟩
      have st := (same_new (o := .tup [.int 0]) nt).trans s3
      refine cat_ints (IntsAt.same (show IntsAt H' c r from hr2) st) hz (by rw [zeros_len]; omega) fun z2 H4 s4 hz2 => ?_
      rw [List.take_add_one, hr1, List.map_append]
      exact row_more nD sm hds (by rw [List.length_map, List.length_take]; omega) (st.trans s4) hz2
    rw [List.length_map, hal, List.take_length] at hds
    obtain ⟨wd, hwd, hWd⟩ : ∃ ds : List Addr, H2 D = some (.lst (ds.map V.ref)) ∧ Rows H2 ds (wideL ll) := hds
    have hwl : wd.length = ll.length := by rw [hWd.len]; unfold wideL; rw [List.length_map]
    -- the others
    refine ⟨.ref D, rfl, 3, rfl, by decide, by decide, fun D2 nD2 => ?_⟩
    refine lc_range (lo := 0) (n := (3 : Int).toNat) (fun i H' => Same H2 H' ∧ ∃ ds : List Addr, H' D2 = some (.lst (ds.map V.ref)) ∧ Rows H' ds ((List.range i).map fun g => unI g 3)) ⟨same_new nD2, [], upd_same, True.intro⟩ (fun i H' hi ⟨sm, hds⟩ => ?_) (fun H3 ⟨s3, ud, hud, hUd⟩ => ?_)
    · have hi' : i < 3 := hi
      have ez : (0 : Int) + (i : Nat) = ((i : Nat) : Int) := by omega
      rw [ez]
      refine ⟨rfl, yes (iteT ?_)⟩
      refine ⟨.int (i : Int), rfl, i, 3, rfl, hi', by decide, fun H4 z s4 hz => ?_⟩
      rw [List.range_succ, List.map_append]
      exact row_more nD2 sm hds (by rw [List.length_map, List.length_range]; omega) s4 hz
    have hul : ud.length = 3 := by
      rw [hUd.len, List.length_map, List.length_range]
      rfl
    refine ⟨D, D2, _, _, rfl, rfl, s3 _ _ hwd, hud, by rw [List.length_map, List.length_map]; exact sz1000 (by omega), fun D3 nD3 => ?_⟩
    rw [← List.map_append]
    have s4 := same_new (o := .lst ((wd ++ ud).map V.ref)) nD3
    have hOt : Rows (upd H3 D3 (.lst ((wd ++ ud).map V.ref))) (wd ++ ud) (othL ll) := ((hWd.same s3).app hUd).same s4
    have hD3 : upd H3 D3 (.lst ((wd ++ ud).map V.ref)) D3 = some (.lst ((wd ++ ud).map V.ref)) := upd_same
    have hwd4 := s4 _ _ (s3 _ _ hwd)
    have hWd4 := (hWd.same s3).same s4
    have s14 : Same H1 _ := s2.trans (s3.trans s4)
    generalize upd H3 D3 (.lst ((wd ++ ud).map V.ref)) = H4 at hOt hD3 hwd4 hWd4 s14 ⊢
    have hol : (othL ll).length = ll.length + 3 := by
      unfold othL wideL
      rw [List.length_append, List.length_map, List.length_map, List.length_range]
    have hwdl : (wideL ll).length = ll.length := by unfold wideL; rw [List.length_map]
    -- the rows
    refine ⟨.ref D, rfl, D, rfl, ⟨_, SqL.of hwd4⟩, fun D4 nD4 => ?_⟩
    let G : Nat → List (List Int) := fun a => ((wideL ll).take a).flatMap fun r => (othL ll).map fun o => (upI r o).take (width ll)
    have hG : ∀ a, (G a).length ≤ 100 := fun a => by
      show (((wideL ll).take a).flatMap fun r => (othL ll).map fun o => (upI r o).take (width ll)).length ≤ 100
      rw [flat_len (n := ll.length + 3) fun r _ => by rw [List.length_map, hol], List.length_take]
      have h5 : ll.length ≤ 5 := hok.2.1
      have : min a (wideL ll).length * (ll.length + 3) ≤ 5 * 8 := Nat.mul_le_mul (by omega) (by omega)
      omega
    refine ⟨fun a m H' => a + m = wd.length ∧ Same H4 H' ∧ ∃ ds : List Addr, H' D4 = some (.lst (ds.map V.ref)) ∧ Rows H' ds (G a), ⟨wd.length, by omega, same_new nD4, [], upd_same, True.intro⟩, fun a m H' hW => ?_⟩
    obtain ⟨em, sm, hds⟩ := hW
    by_cases ha : a < wd.length
    · have hba : wd[a]? = some (wd[a]'ha) := List.getElem?_eq_getElem ha
      obtain ⟨r, hr1, hr2⟩ := hWd4.at hba
      have hli := sm _ _ hwd4
      have g1 : (wd.map V.ref)[a]? = some (.ref (wd[a]'ha)) := by rw [List.getElem?_map, hba]; rfl
      obtain ⟨hrl, hrb⟩ := wide_ok ef r (List.mem_of_getElem? hr1)
      have hr2' : IntsAt H4 (wd[a]'ha) r := hr2
      generalize wd[a]'ha = wa at g1 hr2'
      refine .inr ⟨⟨_, _, SqL.of hli, g1⟩, fun H5 => Same H4 H5 ∧ ∃ ds : List Addr, H5 D4 = some (.lst (ds.map V.ref)) ∧ Rows H5 ds (G (a + 1)), fun H5 hN => ⟨m - 1, by omega, by omega, hN⟩, fun x H5 hy => ?_⟩
      obtain ⟨e5, f5⟩ := hy
      subst e5
      have exx : x = .ref wa := Option.some.inj ((f5 _ (SqL.of hli)).symm.trans g1)
      subst exx
      have eG : G (a + 1) = G a ++ (othL ll).map fun o => (upI r o).take (width ll) := by
        show ((wideL ll).take (a + 1)).flatMap _ = ((wideL ll).take a).flatMap _ ++ _
        rw [List.take_add_one, hr1, List.flatMap_append]
        simp
      refine ⟨rfl, yes (iteT ?_)⟩
      refine ⟨.ref D3, rfl, D3, rfl, ⟨_, SqL.of (sm _ _ hD3)⟩, ?_⟩
      refine ⟨fun j mm H6 => j + mm = (wd ++ ud).length ∧ Same H4 H6 ∧ ∃ ds : List Addr, H6 D4 = some (.lst (ds.map V.ref)) ∧ Rows H6 ds (G a ++ ((othL ll).take j).map fun o => (upI r o).take (width ll)), ⟨(wd ++ ud).length, by omega, sm, by simpa using hds⟩, fun j mm H6 hW => ?_⟩
      obtain ⟨em6, s6, hds6⟩ := hW
      have hod := hOt.len
      by_cases hj : j < (wd ++ ud).length
      · have hbj : (wd ++ ud)[j]? = some ((wd ++ ud)[j]'hj) := List.getElem?_eq_getElem hj
        obtain ⟨o, ho1, ho2⟩ := hOt.at hbj
        have hlj := s6 _ _ hD3
        have g2 : ((wd ++ ud).map V.ref)[j]? = some (.ref ((wd ++ ud)[j]'hj)) := by rw [List.getElem?_map, hbj]; rfl
        have ho2' : IntsAt H4 ((wd ++ ud)[j]'hj) o := ho2
        generalize (wd ++ ud)[j]'hj = oa at g2 ho2'
        refine .inr ⟨⟨_, _, SqL.of hlj, g2⟩, fun H7 => Same H4 H7 ∧ ∃ ds : List Addr, H7 D4 = some (.lst (ds.map V.ref)) ∧ Rows H7 ds (G a ++ ((othL ll).take (j + 1)).map fun o => (upI r o).take (width ll)), fun H7 hN => ⟨mm - 1, by omega, by omega, hN⟩, fun y H7 hy => ?_⟩
        obtain ⟨e7, f7⟩ := hy
        subst e7
        have exy : y = .ref oa := Option.some.inj ((f7 _ (SqL.of hlj)).symm.trans g2)
        subst exy
        refine ⟨rfl, yes (iteT ?_)⟩
        refine ⟨.ref wa, rfl, .ref oa, rfl, wa, oa, r, o, rfl, hr2'.same s6, ho2'.same s6, hrl, oth_len ef o (List.mem_of_getElem? ho1), fun n hn => by have := hrb n hn; omega, fun H8 z s8 hz => ?_⟩
        refine noPart ⟨.int (width ll : Nat), rfl, _, rfl, slice_read (show H8 z = some (.tup ((upI r o).map V.int)) from hz) fun z2 H9 s9 hz2 => ?_⟩
        rw [cut_to, ← List.map_take] at hz2
        rw [List.take_add_one, ho1, List.map_append, ← List.append_assoc]
        refine row_more nD4 s6 hds6 ?_ (s8.trans s9) hz2
        have := hG a
        rw [List.length_append, List.length_map, List.length_take]
        omega
      · rw [List.take_of_length_le (by omega)] at hds6
        refine .inl ⟨⟨_, SqL.of (s6 _ _ hD3), by rw [List.length_map]; omega⟩, s6, ?_⟩
        rw [eG]
        exact hds6
    · refine .inl ⟨⟨_, SqL.of (sm _ _ hwd4), by rw [List.length_map]; omega⟩, ?_⟩
      have eGl : G a = rowL ll := by
        show ((wideL ll).take a).flatMap _ = _
        rw [List.take_of_length_le (by omega)]
        rfl
      rw [eGl] at hds
      obtain ⟨rd, hrd, hRd⟩ := hds
      have hrn : rd.length ≤ 100 := by
        rw [hRd.len, ← eGl]
        exact hG a
      have hrowl : ∀ r ∈ rowL ll, r.length ≤ 100 := fun r hr => by
        obtain ⟨x, _, hm⟩ := List.mem_flatMap.mp hr
        obtain ⟨o, _, rfl⟩ := List.mem_map.mp hm
        rw [List.length_take]
        omega
      -- and their opposites
      refine ⟨.ref D4, rfl, .ref D4, rfl, D4, rfl, ⟨_, SqL.of hrd⟩, fun D5 nD5 => ?_⟩
      refine lc_list (K := K) (a := D4) (xs := rd.map V.ref) (fun i H6 => Same H' H6 ∧ ∃ ds : List Addr, H6 D5 = some (.lst (ds.map V.ref)) ∧ Rows H6 ds (((rowL ll).take i).map fun r => r.map fun n => -n)) ⟨same_new nD5, [], upd_same, by rw [List.take_zero]; exact True.intro⟩ (fun i H6 _ hP => SqL.of (hP.1 _ _ hrd)) (fun i x H6 hx ⟨s6, hds⟩ => ?_) (fun H6 ⟨s6, hds⟩ => ?_)
      · obtain ⟨c, hc, rfl⟩ := ref_at hx
        obtain ⟨r, hr1, hr2⟩ := (hRd.same s6).at hc
        refine ⟨rfl, yes (iteT ?_)⟩
        refine ⟨.ref c, rfl, c, r, rfl, hr2, hrowl r (List.mem_of_getElem? hr1), fun H7 z s7 hz => ?_⟩
        rw [List.take_add_one, hr1, List.map_append]
        have := hRd.len
        exact row_more nD5 s6 hds (by rw [List.length_map, List.length_take]; omega) s7 hz
      · rw [List.length_map, hRd.len, List.take_length] at hds
        obtain ⟨od, hod, hOd⟩ := hds
        have hdl : od.length = rd.length := by rw [hOd.len, List.length_map, hRd.len]
        refine ⟨D4, D5, _, _, rfl, rfl, s6 _ _ hrd, hod, by rw [List.length_map, List.length_map]; exact sz1000 (by omega), fun D6 nD6 => ?_⟩
        rw [← List.map_append]
        have s7 := same_new (o := .lst ((rd ++ od).map V.ref)) nD6
        exact q _ D6 (rd ++ od) (s1.trans (s14.trans (sm.trans (s6.trans s7)))) upd_same (((hRd.same s6).app hOd).same s7)
end
theorem flaw_kd {ll : List (List Int)} (h : flaw ll = none) : ∀ x ∈ ll, Kd (width ll) x := fun x hx => by
  obtain ⟨h1, h2, h3⟩ := okRow_iff.mp (okRow_all h x hx)
  exact ⟨h1, fun n hn => (h2 n hn).1, h3⟩
/-! ### prices, row by row -/
def pad (r : List Int) : V3 := (r.getD 0 0, r.getD 1 0, r.getD 2 0)
theorem dot_pad : ∀ {r p : List Int}, r.length = p.length → r.length ≤ 3 → dotI r p = d3 (pad p) (pad r)
  | [], [], _, _ => by simp [dotI, d3, pad]
  | [a], [x], _, _ => by simp [dotI, d3, pad, Int.mul_comm]
  | [a, b], [x, y], _, _ => by simp [dotI, d3, pad, Int.mul_comm]
  | [a, b, c], [x, y, z], _, _ => by
    simp [dotI, d3, pad, Int.mul_comm]
    omega
  | [], _ :: _, h, _ => by simp at h
  | [_], [], h, _ => by simp at h
  | [_], _ :: _ :: _, h, _ => by simp at h
  | [_, _], [], h, _ => by simp at h
  | [_, _], [_], h, _ => by simp at h
  | [_, _], _ :: _ :: _ :: _, h, _ => by simp at h
  | [_, _, _], [], h, _ => by simp at h
  | [_, _, _], [_], h, _ => by simp at h
  | [_, _, _], [_, _], h, _ => by simp at h
  | [_, _, _], _ :: _ :: _ :: _ :: _, h, _ => by simp at h
  | _ :: _ :: _ :: _ :: _, _, _, h => by simp at h
theorem dot_up {r x o : List Int} {g : Nat} (hr : r.length = g) (g3 : g ≤ 3) : dotI r ((upI x o).take g) = d3 (cr3 (pad x) (pad o)) (pad r) := by
  subst hr
  match r, g3 with
  | [], _ => simp [dotI, d3, pad]
  | [a], _ => simp [dotI, d3, pad, upI, cr3, Int.mul_comm]
  | [a, b], _ => simp [dotI, d3, pad, upI, cr3, Int.mul_comm]
  | [a, b, c], _ =>
    simp [dotI, d3, pad, upI, cr3, Int.mul_comm]
    omega
  | _ :: _ :: _ :: _ :: _, h => simp at h
theorem dot_neg : ∀ {r p : List Int}, dotI r (p.map fun n => -n) = - dotI r p
  | [], p => by rw [dotI_nil, dotI_nil]; rfl
  | _ :: _, [] => by rw [List.map_nil, dotI_nil2]; rfl
  | x :: r, y :: p => by
    rw [List.map_cons, dotI_cons, dotI_cons, dot_neg, Int.mul_neg]
    omega
theorem pad_sum {r : List Int} (h : r.length ≤ 3) : s3 (pad r) = r.sum := by
  match r, h with
  | [], _ => rfl
  | [a], _ => simp [s3, pad]
  | [a, b], _ => simp [s3, pad]
  | [a, b, c], _ =>
    simp [s3, pad]
    omega
  | _ :: _ :: _ :: _ :: _, h => simp at h
theorem pad_wide {r : List Int} {n : Nat} (h : r.length ≤ 3) : pad (r ++ zeros n) = pad r := by
  have e : ∀ i, (r ++ zeros n).getD i 0 = r.getD i 0 := fun i => by
    rw [List.getD_eq_getElem?_getD, List.getD_eq_getElem?_getD]
    by_cases c : i < r.length
    · rw [List.getElem?_append_left c]
    · rw [List.getElem?_append_right (by omega), List.getElem?_eq_none (show r.length ≤ i by omega)]
      unfold zeros
      by_cases d : i - r.length < n
      · rw [List.getElem?_eq_getElem (by rw [List.length_replicate]; exact d), List.getElem_replicate]
        rfl
      · rw [List.getElem?_eq_none (by rw [List.length_replicate]; omega)]
  unfold pad
  rw [e, e, e]
theorem prB_iff {ll : List (List Int)} {b p : List Int} : prB ll b p = true ↔ p.length = b.length ∧ dotI b p < 0 ∧ ∀ r ∈ ll, 0 ≤ dotI r p := by
  unfold prB
  rw [Bool.and_eq_true, Bool.and_eq_true, decide_eq_true_iff, decide_eq_true_iff, List.all_eq_true]
  exact and_congr Iff.rfl (and_congr Iff.rfl ⟨fun h r hr => of_decide_eq_true (h r hr), fun h r hr => decide_eq_true (h r hr)⟩)
/-- where some prices bar a bill, some of the told rows do -/
theorem price_full {ll : List (List Int)} {b p : List Int} (ef : flaw ll = none) (hb : b.length = width ll) (hbn : ∀ n ∈ b, 0 ≤ n) (h : prB ll b p = true) : ∃ r ∈ priceL ll, prB ll b r = true := by
  obtain ⟨hp, h1, h2⟩ := prB_iff.mp h
  have hok := flaw_ok ef
  have g3 : width ll ≤ 3 := hok.2.2.2
  have hrl : ∀ r ∈ ll, r.length = width ll := fun r hr => (flaw_rows ef r hr).1
  have dp : ∀ r : List Int, r.length = width ll → dotI r p = d3 (pad p) (pad r) := fun r hr => dot_pad (by rw [hr, hp, hb]) (by omega)
  obtain ⟨a, ha, x, hx, hbar⟩ := bars_some (ks := ll.map pad) (b := pad b) (p := pad p) (fun e => by
      have := congrArg List.length e
      rw [List.length_map] at this
      have h1 := hok.1
      simp at this
      rw [this] at h1
      simp at h1) (fun k hk => by
      obtain ⟨r, hr, rfl⟩ := List.mem_map.mp hk
      rw [pad_sum (by rw [hrl r hr]; omega)]
      exact sum_kd (flaw_kd ef r hr)) (by
      rw [pad_sum (by omega)]
      exact sum_nn hbn) (fun k hk => by
      obtain ⟨r, hr, rfl⟩ := List.mem_map.mp hk
      rw [← dp r (hrl r hr)]
      exact h2 r hr) (by
      rw [← dp b hb]
      exact h1)
  obtain ⟨ra, hra, rfl⟩ := List.mem_map.mp ha
  have hwa : ra ++ zeros (3 - width ll) ∈ wideL ll := List.mem_map.mpr ⟨ra, hra, rfl⟩
  have pa : pad (ra ++ zeros (3 - width ll)) = pad ra := pad_wide (by rw [hrl ra hra]; omega)
  obtain ⟨o, ho, po⟩ : ∃ o ∈ othL ll, pad o = x := by
    rcases List.mem_append.mp hx with h | h
    · obtain ⟨r, hr, rfl⟩ := List.mem_map.mp h
      exact ⟨r ++ zeros (3 - width ll), List.mem_append_left _ (List.mem_map.mpr ⟨r, hr, rfl⟩), pad_wide (by rw [hrl r hr]; omega)⟩
    · have hu : x = (1, 0, 0) ∨ x = (0, 1, 0) ∨ x = (0, 0, 1) := by simpa [un3] using h
      rcases hu with e | e | e
      · exact ⟨unI 0 3, List.mem_append_right _ (List.mem_map.mpr ⟨0, by simp, rfl⟩), by rw [e]; rfl⟩
      · exact ⟨unI 1 3, List.mem_append_right _ (List.mem_map.mpr ⟨1, by simp, rfl⟩), by rw [e]; rfl⟩
      · exact ⟨unI 2 3, List.mem_append_right _ (List.mem_map.mpr ⟨2, by simp, rfl⟩), by rw [e]; rfl⟩
  have hrow : (upI (ra ++ zeros (3 - width ll)) o).take (width ll) ∈ rowL ll := List.mem_flatMap.mpr ⟨_, hwa, List.mem_map.mpr ⟨o, ho, rfl⟩⟩
  have du : ∀ r : List Int, r.length = width ll → dotI r ((upI (ra ++ zeros (3 - width ll)) o).take (width ll)) = d3 (cr3 (pad ra) x) (pad r) := fun r hr => by rw [dot_up hr g3, pa, po]
  have hul : ((upI (ra ++ zeros (3 - width ll)) o).take (width ll)).length = width ll := by
    rw [List.length_take]
    show min (width ll) 3 = width ll
    omega
  rcases hbar with ⟨k1, k2⟩ | ⟨k1, k2⟩
  · refine ⟨_, List.mem_append_left _ hrow, prB_iff.mpr ⟨by rw [hul, hb], by rw [du b hb]; exact k2, fun r hr => ?_⟩⟩
    rw [du r (hrl r hr)]
    exact k1 _ (List.mem_map.mpr ⟨r, hr, rfl⟩)
  · have en : ∀ k, d3 (neg3 (cr3 (pad ra) x)) k = - d3 (cr3 (pad ra) x) k := fun k => by
      unfold d3 neg3
      grind
    refine ⟨_, List.mem_append_right _ (List.mem_map.mpr ⟨_, hrow, rfl⟩), prB_iff.mpr ⟨by rw [List.length_map, hul, hb], ?_, fun r hr => ?_⟩⟩
    · rw [dot_neg, du b hb, ← en]
      exact k2
    · rw [dot_neg, du r (hrl r hr), ← en]
      exact k1 _ (List.mem_map.mpr ⟨r, hr, rfl⟩)
theorem dot_zero : ∀ {b p : List Int}, zeroB b = true → dotI b p = 0
  | [], _, _ => dotI_nil
  | _ :: _, [], _ => dotI_nil2
  | x :: b, y :: p, h => by
    rw [dotI_cons, zeroB_iff.mp h x List.mem_cons_self, dot_zero (zeroB_iff.mpr fun n hn => zeroB_iff.mp h n (List.mem_cons_of_mem _ hn))]
    simp
/-- prices never bar what counts come to -/
theorem comes_price {p : List Int} {g : Nat} : ∀ {l : List (List Int)} {c b : List Int}, (∀ h ∈ l, h.length = g) → b.length = g → Comes l c b → (∀ r ∈ l, 0 ≤ dotI r p) → 0 ≤ dotI b p
  | [], [], b, _, _, q, _ => by
    have q' : zeroB b = true := q
    rw [dot_zero q']
    exact Int.le_refl _
  | [], _ :: _, _, _, _, h, _ => h.elim
  | _ :: _, [], _, _, _, h, _ => h.elim
  | h :: t, k :: c, b, hl, hb, q, hp => by
    have eh : b.length = h.length := by rw [hb, hl h List.mem_cons_self]
    have ih := comes_price (p := p) (fun x hx => hl x (List.mem_cons_of_mem _ hx)) (by rw [subR_len eh, hb]) q.2 fun r hr => hp r (List.mem_cons_of_mem _ hr)
    rw [dot_sub eh] at ih
    have := Int.mul_nonneg q.1 (hp h List.mem_cons_self)
    omega
theorem dot_mul : ∀ {b p : List Int} {k : Int}, dotI (b.map fun n => k * n) p = k * dotI b p
  | [], p, k => by rw [List.map_nil, dotI_nil, Int.mul_zero]
  | _ :: _, [], k => by rw [dotI_nil2, dotI_nil2, Int.mul_zero]
  | x :: b, y :: p, k => by
    rw [List.map_cons, dotI_cons, dotI_cons, dot_mul]
    grind
theorem packI_cons {h : List Int} {t : List (List Int)} {k : Int} {c : List Int} {g : Nat} : packI (h :: t) (k :: c) g = k * h.getD g 0 + packI t c g := by
  unfold packI
  rw [List.zip_cons_cons, List.map_cons, List.sum_cons]
theorem getD_sub {b h : List Int} {k : Int} {g : Nat} (e : b.length = h.length) : (subR b h k).getD g 0 = b.getD g 0 - k * h.getD g 0 := by
  by_cases c : g < b.length
  · rw [List.getD_eq_getElem?_getD, subR_at c (by omega)]
    rfl
  · rw [List.getD_eq_getElem?_getD, List.getElem?_eq_none (by rw [subR_len e]; omega), List.getD_eq_getElem?_getD, List.getElem?_eq_none (by omega), List.getD_eq_getElem?_getD, List.getElem?_eq_none (by omega)]
    simp
theorem zeroB_at {b : List Int} : zeroB b = true ↔ ∀ g, b.getD g 0 = 0 := by
  rw [zeroB_iff]
  constructor
  · intro h g
    by_cases c : g < b.length
    · rw [List.getD_eq_getElem?_getD, List.getElem?_eq_getElem c]
      exact h _ (List.getElem_mem c)
    · rw [List.getD_eq_getElem?_getD, List.getElem?_eq_none (by omega)]
      rfl
  · intro h n hn
    obtain ⟨g, hg, e⟩ := List.mem_iff_getElem.mp hn
    have := h g
    rw [List.getD_eq_getElem?_getD, List.getElem?_eq_getElem hg] at this
    rw [← e]
    exact this
theorem comes_iff : ∀ {l : List (List Int)} {c b : List Int}, (∀ h ∈ l, h.length = b.length) → (Comes l c b ↔ c.length = l.length ∧ (∀ n ∈ c, 0 ≤ n) ∧ ∀ g, packI l c g = b.getD g 0)
  | [], [], b, _ => by
    show zeroB b = true ↔ _
    rw [zeroB_at]
    exact ⟨fun h => ⟨rfl, fun n hn => (by cases hn), fun g => (h g).symm⟩, fun h g => (h.2.2 g).symm⟩
  | [], _ :: _, _, _ => ⟨fun h => h.elim, fun h => by simp at h⟩
  | _ :: _, [], _, _ => ⟨fun h => h.elim, fun h => by simp at h⟩
  | h :: t, k :: c, b, hl => by
    have eh : b.length = h.length := (hl h List.mem_cons_self).symm
    have ht : ∀ x ∈ t, x.length = (subR b h k).length := fun x hx => by rw [subR_len eh]; exact hl x (List.mem_cons_of_mem _ hx)
    show 0 ≤ k ∧ Comes t c (subR b h k) ↔ _
    rw [comes_iff ht]
    constructor
    · rintro ⟨h0, h1, h2, h3⟩
      refine ⟨by rw [List.length_cons, List.length_cons, h1], fun n hn => ?_, fun g => ?_⟩
      · rcases List.mem_cons.mp hn with e | e
        · rw [e]; exact h0
        · exact h2 n e
      · rw [packI_cons, h3 g, getD_sub eh]
        omega
    · rintro ⟨h1, h2, h3⟩
      refine ⟨h2 k List.mem_cons_self, by simpa using h1, fun n hn => h2 n (List.mem_cons_of_mem _ hn), fun g => ?_⟩
      have := h3 g
      rw [packI_cons] at this
      rw [getD_sub eh]
      omega
theorem packI_far {l : List (List Int)} {c : List Int} {n g : Nat} (hl : ∀ h ∈ l, h.length = n) (hg : n ≤ g) : packI l c g = 0 := by
  unfold packI
  have : ∀ x ∈ (c.zip l).map (fun q => q.1 * q.2.getD g 0), x = 0 := fun x hx => by
    obtain ⟨q, hq, rfl⟩ := List.mem_map.mp hx
    have hm : q.2 ∈ l := (List.of_mem_zip hq).2
    have : q.2.getD g 0 = 0 := by rw [List.getD_eq_getElem?_getD, List.getElem?_eq_none (by rw [hl _ hm]; exact hg)]; rfl
    rw [this, Int.mul_zero]
  generalize (c.zip l).map (fun q => q.1 * q.2.getD g 0) = zs at this
  induction zs with
  | nil => rfl
  | cons z zs ih => rw [List.sum_cons, this z List.mem_cons_self, ih fun x hx => this x (List.mem_cons_of_mem _ hx)]; rfl
theorem packI_bd {M c : Int} (M0 : 0 ≤ M) (c0 : 0 ≤ c) : ∀ {l : List (List Int)} {cs : List Int} {g : Nat}, (∀ r ∈ l, ∀ n ∈ r, 0 ≤ n ∧ n ≤ c) → (∀ n ∈ cs, 0 ≤ n ∧ n ≤ M) → 0 ≤ packI l cs g ∧ packI l cs g ≤ M * c * (l.length : Nat)
  | [], [], _, _, _ => by
    unfold packI
    simp
  | [], _ :: _, _, _, _ => by
    unfold packI
    rw [List.zip_nil_right]
    simp
  | r :: l, [], g, _, _ => by
    unfold packI
    rw [List.zip_nil_left]
    have : 0 ≤ M * c * ((r :: l).length : Nat) := Int.mul_nonneg (Int.mul_nonneg M0 c0) (by omega)
    simp
    simpa using this
  | r :: l, k :: cs, g, hl, hc => by
    obtain ⟨h1, h2⟩ := packI_bd M0 c0 (l := l) (cs := cs) (g := g) (fun r hr => hl r (List.mem_cons_of_mem _ hr)) fun n hn => hc n (List.mem_cons_of_mem _ hn)
    have hk := hc k List.mem_cons_self
    have hg : 0 ≤ r.getD g 0 ∧ r.getD g 0 ≤ c := by
      by_cases d : g < r.length
      · exact hl r List.mem_cons_self _ (List.mem_of_getElem? (getD_at d))
      · rw [List.getD_eq_getElem?_getD, List.getElem?_eq_none (by omega)]
        exact ⟨Int.le_refl _, c0⟩
    have a1 : 0 ≤ k * r.getD g 0 := Int.mul_nonneg hk.1 hg.1
    have a2 : k * r.getD g 0 ≤ M * c := Int.mul_le_mul hk.2 hg.2 hg.1 M0
    rw [packI_cons, List.length_cons, Int.natCast_add, Int.mul_add]
    omega
theorem goods_comes {ll : List (List Int)} {cs : List Int} (ef : flaw ll = none) (hc : cs.length = ll.length) (hn : ∀ n ∈ cs, 0 ≤ n) : Comes ll cs (goodsI ll cs) := by
  have hl : (goodsI ll cs).length = width ll := by unfold goodsI; rw [List.length_map, List.length_range]
  have hr : ∀ h ∈ ll, h.length = width ll := fun h hh => (flaw_rows ef h hh).1
  refine (comes_iff fun h hh => by rw [hl]; exact hr h hh).mpr ⟨hc, hn, fun g => ?_⟩
  by_cases d : g < width ll
  · unfold goodsI
    rw [List.getD_eq_getElem?_getD, List.getElem?_map, List.getElem?_range d]
    rfl
  · rw [packI_far hr (by omega), List.getD_eq_getElem?_getD, List.getElem?_eq_none (by omega)]
    rfl
section
variable {P : Program} {w : World} {K : PySem.W.Frag} {mg : Str → Option Value} {base : Heap}
theorem price_small {ll : List (List Int)} (ef : flaw ll = none) : ∀ r ∈ priceL ll, r.length ≤ 3 ∧ Bnd r := by
  have up : ∀ r ∈ rowL ll, r.length ≤ 3 ∧ Bnd r := fun r hr => by
    obtain ⟨x, hx, hm⟩ := List.mem_flatMap.mp hr
    obtain ⟨o, ho, rfl⟩ := List.mem_map.mp hm
    obtain ⟨hxl, hxb⟩ := wide_ok ef x hx
    have hob : o.length = 3 ∧ ∀ n ∈ o, 0 ≤ n ∧ n ≤ 6 := by
      rcases List.mem_append.mp ho with h | h
      · exact wide_ok ef o h
      · obtain ⟨g, hg, rfl⟩ := List.mem_map.mp h
        have hg3 := List.mem_range.mp hg
        refine ⟨un_len hg3, fun n hn => ?_⟩
        unfold unI zeros at hn
        rcases List.mem_append.mp hn with h | h
        · rcases List.mem_append.mp h with h | h
          · rw [List.eq_of_mem_replicate h]; decide
          · rw [List.mem_singleton.mp h]; decide
        · rw [List.eq_of_mem_replicate h]; decide
    refine ⟨by rw [List.length_take]; show min (width ll) 3 ≤ 3; omega, fun n hn => ?_⟩
    have hn' := List.mem_of_mem_take hn
    have xb : ∀ i, 0 ≤ x.getD i 0 ∧ x.getD i 0 ≤ 6 := fun i => by
      by_cases d : i < x.length
      · exact hxb _ (List.mem_of_getElem? (getD_at d))
      · rw [List.getD_eq_getElem?_getD, List.getElem?_eq_none (by omega)]
        decide
    have ob : ∀ i, 0 ≤ o.getD i 0 ∧ o.getD i 0 ≤ 6 := fun i => by
      by_cases d : i < o.length
      · exact hob.2 _ (List.mem_of_getElem? (getD_at d))
      · rw [List.getD_eq_getElem?_getD, List.getElem?_eq_none (by omega)]
        decide
    have pr : ∀ i j, 0 ≤ x.getD i 0 * o.getD j 0 ∧ x.getD i 0 * o.getD j 0 ≤ 36 := fun i j => by
      have h1 := xb i
      have h2 := ob j
      exact ⟨Int.mul_nonneg h1.1 h2.1, Int.mul_le_mul h1.2 h2.2 h2.1 (by decide)⟩
    have c12 := pr 1 2
    have c21 := pr 2 1
    have c20 := pr 2 0
    have c02 := pr 0 2
    have c01 := pr 0 1
    have c10 := pr 1 0
    unfold upI at hn'
    simp only [List.mem_cons, List.mem_nil_iff, or_false] at hn'
    rcases hn' with h | h | h <;> (rw [h]; omega)
  intro r hr
  rcases List.mem_append.mp hr with h | h
  · exact up r h
  · obtain ⟨s, hs, rfl⟩ := List.mem_map.mp h
    obtain ⟨h1, h2⟩ := up s hs
    refine ⟨by rw [List.length_map]; exact h1, fun n hn => ?_⟩
    obtain ⟨m, hm, rfl⟩ := List.mem_map.mp hn
    have := h2 m hm
    omega
def spPrHold : Sp := fun vs H Q _ => ∃ (p b v : Addr) (as : List Addr) (ll : List (List Int)) (bs ps : List Int), vs = [.ref p, .ref b, .ref v] ∧ RowsAt H p as ll ∧ flaw ll = none ∧ IntsAt H b bs ∧ bs.length = width ll ∧ (∀ n ∈ bs, 0 ≤ n ∧ n < G30) ∧ IntsAt H v ps ∧ ps.length ≤ 100 ∧ Bnd ps ∧ ∀ H', Same H H' → Q (.bl (prB ll bs ps)) H'
theorem ok_prHold {f : Addr} {fd : FuncData} {CB : Addr} (F : Fun K "prices_hold" "prices_hold" sPrHold f fd) (CL : Cal P w K mg base (L2.CX P w) 4 "look_bill" ["lot", "bill"] (spLookBillR K CB)) (CA : Cal P w K mg base CX0 2 "are_prices" ["lot", "bill", "paper"] spArePr) : FnOk P w K mg base (L2.CX P w) 5 f fd ["lot", "bill", "paper"] spPrHold := by
  obtain ⟨fL, fdL, GL, gL, kL, bL⟩ := CL.ex
  obtain ⟨fA, fdA, GA, gA, kA, bA⟩ := CA.ex
  refine F.okX scPh (fun vs H Q E h => ?_) (fun cdv A outer s H vs Q E hr h => ?_)
  · obtain ⟨p, b, v, as, ll, bs, ps, rfl, _⟩ := h
    rfl
  · obtain ⟨p, b, v, as, ll, bs, ps, rfl, R, ef, hB, hbl, hbb, hV, hpz, hbd, q⟩ := h
    refine ⟨_, (pss_cons (ps_expr (pe_call GL hr (by rfl) gL kL bL .nil (passes_call (takes_of rfl rfl rfl rfl) (fun _ _ _ _ h => h)) (pa_cons (pv 0) (pa_cons (pv 1) pa_nil))))
      (pss_one (ps_ret (pe_call GA (hr.mono (by decide)) (by rfl) gA kA bA .nil pass0 (pa_cons (pv 0) (pa_cons (pv 1) (pa_cons (pv 2) pa_nil))))))), ?_⟩
    have hok := flaw_ok ef
    have hrw := flaw_rows ef
    have ew : wrong (width ll : Nat) bs = none := wrong_good (by omega) hbb
    refine ⟨.ref p, rfl, .ref b, rfl, p, b, as, ll, bs, rfl, R, ef, hB, by omega, fun _ H1 s1 => ?_, fun z => absurd ew z⟩
    refine ⟨.ref p, rfl, .ref b, rfl, .ref v, rfl, p, b, v, as, ll, bs, ps, rfl, R.same s1, by omega, fun r hr => ⟨by rw [(hrw r hr).1, hbl], fun n hn => by have := (hrw r hr).2 n hn; omega⟩, hB.same s1, hV.same s1, by omega, hpz, bill_ent hbb, hbd, fun H2 s2 => q H2 (s1.trans s2)⟩
def spPrices (CB : Addr) : Sp := fun vs H Q E => ∃ (p b : Addr) (as : List Addr) (ll : List (List Int)) (bs : List Int), vs = [.ref p, .ref b] ∧ RowsAt H p as ll ∧ flaw ll = none ∧ IntsAt H b bs ∧ bs.length ≤ 100 ∧
  (wrong (width ll : Nat) bs = none → (∀ H' v r, Same H H' → IntsAt H' v r → r ∈ priceL ll → prB ll bs r = true → Q (.ref v) H') ∧ ((∀ r ∈ priceL ll, prB ll bs r = false) → ∀ H', Same H H' → Q .non H')) ∧ (wrong (width ll : Nat) bs ≠ none → RefW CB "bad bill" H E)
theorem ok_prices {f : Addr} {fd : FuncData} {CB : Addr} (F : Fun K "prices" "prices" sPrices f fd) (CL : Cal P w K mg base (L2.CX P w) 4 "look_bill" ["lot", "bill"] (spLookBillR K CB)) (CA : Cal P w K mg base CX0 2 "are_prices" ["lot", "bill", "paper"] spArePr) (CR : Cal P w K mg base CX0 4 "price_rows" ["lot"] spPrRows) : FnOk P w K mg base (L2.CX P w) 5 f fd ["lot", "bill"] (spPrices CB) := by
  obtain ⟨fL, fdL, GL, gL, kL, bL⟩ := CL.ex
  obtain ⟨fA, fdA, GA, gA, kA, bA⟩ := CA.ex
  obtain ⟨fR, fdR, GR, gR, kR, bR⟩ := CR.ex
  refine F.okX scPs (fun vs H Q E h => ?_) (fun cdv A outer s H vs Q E hr h => ?_)
  · obtain ⟨p, b, as, ll, bs, rfl, _⟩ := h
    rfl
  · obtain ⟨p, b, as, ll, bs, rfl, R, ef, hB, hbz, q1, q2⟩ := h
    refine ⟨_, (pss_cons (ps_expr (pe_call GL hr (by rfl) gL kL bL .nil (passes_call (takes_of rfl rfl rfl rfl) (fun _ _ _ _ h => h)) (pa_cons (pv 0) (pa_cons (pv 1) pa_nil))))
      (pss_cons (ps_for (passes_of rfl) rfl (pi_list (pe_call GR hr (by rfl) gR kR bR .nil pass0 (pa_cons (pv 0) pa_nil))) (pg_name (i := 2) scPs.nd rfl (.inl rfl))
      (pss_one (ps_if (pt_val (pe_call GA (hr.mono (by decide)) (by rfl) gA kA bA .nil pass0 (pa_cons (pv 0) (pa_cons (pv 1) (pa_cons (pv 2) pa_nil))))) (pss_one (ps_ret (pv 2))) pss_nil)))
      (pss_one (ps_ret pe_non)))), ?_⟩
    have hok := flaw_ok ef
    have hrw := flaw_rows ef
    refine ⟨.ref p, rfl, .ref b, rfl, p, b, as, ll, bs, rfl, R, ef, hB, hbz, fun ew H1 s1 => ?_, q2⟩
    obtain ⟨q3, q4⟩ := q1 ew
    obtain ⟨hbl, hbb⟩ := wrong_ok ew
    have psm := price_small ef
    refine ⟨.ref p, rfl, p, as, ll, rfl, R.same s1, ef, fun H2 l ds s2 hl hR => ?_⟩
    have s12 := s1.trans s2
    refine ⟨l, rfl, ⟨_, SqL.of hl⟩, ?_⟩
    refine for_list (K := K) (a := l) (xs := ds.map V.ref) (fun i σ H' => Same H2 H' ∧ (∃ y2, σ = [some (.ref p), some (.ref b), y2]) ∧ ∀ j r, j < i → (priceL ll)[j]? = some r → prB ll bs r = false) ⟨Same.refl _, ⟨none, rfl⟩, fun j r hj => absurd hj (Nat.not_lt_zero _)⟩ (fun i σ H' _ hI => SqL.of (hI.1 _ _ hl)) (fun i x σ H' hx hI => ?_) (fun σ H' hI => ?_)
    · obtain ⟨sm, ⟨y2, rfl⟩, hno⟩ := hI
      obtain ⟨c, hc, rfl⟩ := ref_at hx
      obtain ⟨r, hr1, hr2⟩ := (hR.same sm).at hc
      have hrm := List.mem_of_getElem? hr1
      obtain ⟨k1, k2⟩ := psm r hrm
      have s3 := s12.trans sm
      refine ⟨.ref p, rfl, .ref b, rfl, .ref c, rfl, p, b, c, as, ll, bs, r, rfl, R.same s3, by omega, fun x hx => ⟨by rw [(hrw x hx).1]; omega, fun n hn => by have := (hrw x hx).2 n hn; omega⟩, hB.same s3, hr2, hbz, by omega, bill_ent hbb, k2, fun H4 s4 => ⟨_, rfl, ?_⟩⟩
      refine ite2 (fun c1 => ?_) (fun c1 => ?_)
      · exact ⟨.ref c, rfl, q3 H4 c r (s3.trans s4) (IntsAt.same (show IntsAt H' c r from hr2) s4) hrm c1⟩
      · refine ⟨sm.trans s4, ⟨_, rfl⟩, fun j r' hj hjr => ?_⟩
        by_cases d : j < i
        · exact hno j r' d hjr
        · have e : j = i := by omega
          subst e
          rw [hr1] at hjr
          cases hjr
          cases e : prB ll bs r with
          | false => rfl
          | true => exact absurd e c1
    · obtain ⟨sm, ⟨y2, rfl⟩, hno⟩ := hI
      rw [List.length_map, hR.len] at hno
      refine q4 (fun r hr => ?_) H' (s12.trans sm)
      obtain ⟨j, hj, e⟩ := List.mem_iff_getElem.mp hr
      exact hno j r hj (by rw [List.getElem?_eq_getElem hj, e])
end
end HL

set_option pp.maxSteps 3000
namespace HL
open PySem PySem.Spec PyProof.Rows L2
open C8 (pss_cut)
open RZ (pi_zipA ItzT iZipA)
section
variable {prog : Program} {w : World} {A : Around} {E : Value → Shared → Prop} {s : Shared} {a b : Int} {t u : Tok}
theorem imul_int {Q : Value → Shared → Prop} (h : Q (.int (a * b) s.toks) { s with toks := s.toks + 1 }) (hm : IntMulOk a b) : wpAny (model prog w) A (inplaceOp .Mult (.int a t) (.int b u)) Q E s :=
  inplaceOp_gives (op := .Mult) (typeIs_int s a t) (typeIs_int s b u) F.noI_int_mul F.fills_int_mul F.slot_int_mul F.entry_int_mul (F.args_int_mul_2 _ _) (gives_int_mul a b t u hm) trivial h
end
/-- x *= y -/
def ipM : TIp := fun x y H Q => ∃ i j, x = .int i ∧ y = .int j ∧ CMul i j ∧ Q (.int (i * j)) H
theorem ip_mul {X : Cx} : PIp X .Mult ipM := by
  intro pins s σ H x y v u Q I r1 r2 h
  obtain ⟨i, j, e1, e2, hc, q⟩ := h
  subst e1; subst e2
  obtain ⟨t, rfl⟩ := r1
  obtain ⟨t', rfl⟩ := r2
  exact imul_int ⟨.int _, H, I.tok _, ⟨_, rfl⟩, q⟩ hc.ok
def boxI (b : List Int) : Int := b.foldl (fun x a => x * (a + 1)) 1
theorem box_from : ∀ {b : List Int} {x : Int}, 1 ≤ x → (∀ n ∈ b, 0 ≤ n) → x ≤ b.foldl (fun x a => x * (a + 1)) x
  | [], x, _, _ => Int.le_refl _
  | a :: b, x, hx, hb => by
    have a0 := hb a List.mem_cons_self
    have h1 : x * 1 ≤ x * (a + 1) := Int.mul_le_mul_of_nonneg_left (by omega) (by omega)
    rw [Int.mul_one] at h1
    exact Int.le_trans h1 (box_from (by omega) fun n hn => hb n (List.mem_cons_of_mem _ hn))
theorem box_take {b : List Int} {i : Nat} (hb : ∀ n ∈ b, 0 ≤ n) : 1 ≤ boxI (b.take i) ∧ boxI (b.take i) ≤ boxI b := by
  have h1 : 1 ≤ boxI (b.take i) := box_from (Int.le_refl _) fun n hn => hb n (List.mem_of_mem_take hn)
  refine ⟨h1, ?_⟩
  have e : boxI b = (b.drop i).foldl (fun x a => x * (a + 1)) (boxI (b.take i)) := by
    unfold boxI
    rw [← List.foldl_append, List.take_append_drop]
  rw [e]
  exact box_from h1 fun n hn => hb n (List.mem_of_mem_drop hn)
theorem scBx : FnScope ["bill", "box", "amount"] ["bill"] (defScope sBox) := ⟨rfl, rfl, rfl, by decide +kernel, rfl, by decide +kernel, by decide +kernel⟩
theorem scBt : FnScope ["lot", "bill"] ["lot", "bill"] (defScope sBoth) := ⟨rfl, rfl, rfl, by decide +kernel, rfl, by decide +kernel, by decide +kernel⟩
section
variable {P : Program} {w : World} {K : PySem.W.Frag} {mg : Str → Option Value} {base : Heap}
def spFirst0 : Sp := fun vs H Q _ => ∃ (a : Addr) (m : Nat) (row : List Int), vs = [.ref a, .int (m : Int)] ∧ IntsAt H a row ∧ row.length = m ∧ row.length ≤ 100 ∧ (∀ n ∈ row, 0 ≤ n ∧ n < G30) ∧ ∀ H', Same H H' → Q .non H'
theorem ok_first0 {f : Addr} {fd : FuncData} {k : Nat} (F : Fun K "first_wrong" "first_wrong" sFirst f fd) (B : Bl mg) (mG : ∃ t, mg "GREAT" = some (.int G30 t)) : FnOk P w K mg base CX0 (k + 1) f fd ["row", "many"] spFirst0 := by
  obtain ⟨tG, mG⟩ := mG
  refine F.ok scFirst (fun vs H Q E h => ?_) (fun cdv A outer s H vs Q E hr h => ?_)
  · obtain ⟨a, m, row, rfl, _⟩ := h
    rfl
  · obtain ⟨a, m, row, rfl, hA, hl, hz, hb, q⟩ := h
    refine ⟨_, pss_cons (ps_if (pt_cmpR op_ne (pe_callB call_len_seq (by rfl) B.len PySem.boot_len (pa_cons (pv 0) pa_nil)) (pv 1) (nomark _)) pss_never pss_nil)
      (pss_cons (ps_for PassesOwn.never rfl (pi_enumT (by rfl) B.enumerate (pa_cons (pv 0) pa_nil)) (pg_tup rfl (pgs_cons (pg_name (i := 2) scFirst.nd rfl (.inl rfl)) (pgs_cons (pg_name (i := 3) scFirst.nd rfl (.inl rfl)) pgs_nil)))
        (pss_one (ps_if (pt_not (pt_chain op_le op_lt pe_int (pv 3) (pe_glob (v := .int G30) rfl mG ⟨_, rfl⟩))) pss_never pss_nil)))
      (pss_one (ps_ret pe_non))), ?_⟩
    refine ⟨.ref a, rfl, a, _, rfl, .inr (SqT.of hA), .int (m : Int), rfl, rfl, _, rfl, ?_⟩
    rw [List.length_map, hl, decide_eq_true rfl]
    refine iteF ⟨.ref a, rfl, a, _, rfl, SqT.of hA, ?_⟩
    refine ⟨fun i mm σ H' => i + mm = row.length ∧ Same H H' ∧ (∃ y2 y3, σ = [some (.ref a), some (.int (m : Int)), y2, y3]), ⟨row.length, by omega, Same.refl _, ⟨none, none, rfl⟩⟩, fun i mm σ H' hW => ?_⟩
    obtain ⟨em, sm, ⟨y2, y3, rfl⟩⟩ := hW
    have sA : SqT K H' a (row.map V.int) := SqT.of (hA.same sm)
    by_cases hi : i < row.length
    · have hri : row[i]? = some row[i] := List.getElem?_eq_getElem hi
      have g1 : (row.map V.int)[i]? = some (.int row[i]) := by rw [List.getElem?_map, hri]; rfl
      refine .inr ⟨⟨_, _, sA, g1⟩, fun σ' H2 => Same H H2 ∧ (∃ y2 y3, σ' = [some (.ref a), some (.int (m : Int)), y2, y3]), fun σ' H2 hN => ⟨mm - 1, by omega, by omega, hN⟩, fun x H2 hy => ?_⟩
      obtain ⟨T2, x2, rfl, nT, rfl, f2⟩ := hy
      have ex2 : x2 = .int row[i] := Option.some.inj ((f2 _ sA).symm.trans g1)
      subst ex2
      have s3 : Same H (upd H' T2 (.tup [.int (i : Nat), .int row[i]])) := sm.trans (same_new nT)
      refine ⟨T2, _, rfl, SqT.of upd_same, rfl, _, _, rfl, _, _, rfl, rfl, ?_⟩
      refine ⟨.int row[i], rfl, 0, row[i], rfl, rfl, _, rfl, chainF (j := G30) (fun Q' hq => hq) ?_⟩
      rw [decide_eq_true (hb _ (List.mem_of_getElem? hri))]
      exact iteF ⟨s3, ⟨_, _, rfl⟩⟩
    · exact .inl ⟨⟨_, sA, by rw [List.length_map]; omega⟩, q H' sm⟩
def spLookBill0 : Sp := fun vs H Q _ => ∃ (p b : Addr) (as : List Addr) (ll : List (List Int)) (row : List Int), vs = [.ref p, .ref b] ∧ RowsAt H p as ll ∧ flaw ll = none ∧ IntsAt H b row ∧ row.length = width ll ∧ (∀ n ∈ row, 0 ≤ n ∧ n < G30) ∧ ∀ H', Same H H' → Q .non H'
theorem ok_lookBill0 {f : Addr} {fd : FuncData} (F : Fun K "look_bill" "look_bill" sLookBill f fd) (CF : Cal P w K mg base CX0 1 "first_wrong" ["row", "many"] spFirst0) (CG : Cal P w K mg base CX0 3 "goods_of" ["lot"] spGoods0) : FnOk P w K mg base CX0 4 f fd ["lot", "bill"] spLookBill0 := by
  obtain ⟨fF, fdF, GF, gF, kF, bF⟩ := CF.ex
  obtain ⟨fG, fdG, GG, gG, kG, bG⟩ := CG.ex
  refine F.ok scLB (fun vs H Q E h => ?_) (fun cdv A outer s H vs Q E hr h => ?_)
  · obtain ⟨p, b, as, ll, row, rfl, _⟩ := h
    rfl
  · obtain ⟨p, b, as, ll, row, rfl, hL, ef, hB, hl, hb, q⟩ := h
    have hok := flaw_ok ef
    refine ⟨_, pss_cons (ps_set (i := 2) scLB.nd rfl (.inl rfl) (pe_call GF (hr.mono (by decide)) (by rfl) gF kF bF .nil pass0 (pa_cons (pv 1) (pa_cons (pe_call GG hr (by rfl) gG kG bG .nil pass0 (pa_cons (pv 0) pa_nil)) pa_nil))))
      (pss_one (ps_if (pt_cmpR op_notN (pv 2) pe_non (nomark _)) pss_never pss_nil)), ?_⟩
    refine ⟨.ref b, rfl, .ref p, rfl, p, as, ll, rfl, hL, ef, fun H1 s1 => ?_⟩
    refine ⟨b, width ll, row, rfl, hB.same s1, hl, by omega, hb, fun H2 s2 => ?_⟩
    exact ⟨_, rfl, rfl, _, rfl, iteF (q H2 (s1.trans s2))⟩
def spBox0 : Sp := fun vs H Q _ => ∃ (b : Addr) (row : List Int), vs = [.ref b] ∧ IntsAt H b row ∧ row.length ≤ 100 ∧ (∀ n ∈ row, 0 ≤ n) ∧ boxI row ≤ 4000 ∧ Q .non H
theorem ok_box0 {f : Addr} {fd : FuncData} {k : Nat} (F : Fun K "look_box" "look_box" sBox f fd) (mB : ∃ t, mg "MOST_BOX" = some (.int 4000 t)) : FnOk P w K mg base CX0 (k + 1) f fd ["bill"] spBox0 := by
  obtain ⟨tB, mB⟩ := mB
  refine F.ok scBx (fun vs H Q E h => ?_) (fun cdv A outer s H vs Q E hr h => ?_)
  · obtain ⟨b, row, rfl, _⟩ := h
    rfl
  · obtain ⟨b, row, rfl, hB, hz, h0, hx, q⟩ := h
    refine ⟨_, (pss_cons (ps_set (i := 1) scBx.nd rfl (.inl rfl) pe_int)
      (pss_cons (ps_for PassesOwn.never rfl (pi_tup (pv 0)) (pg_name (i := 2) scBx.nd rfl (.inl rfl))
      (pss_one (ps_aug (i := 1) scBx.nd rfl (.inl rfl) (pe_op op_add (pv 2) pe_int) ip_mul)))
      (pss_one (ps_if (pt_cmpR op_gt (pv 1) (pe_glob (v := .int 4000) rfl mB ⟨_, rfl⟩) (nomark _)) pss_never pss_nil)))), ?_⟩
    refine ⟨.ref b, rfl, b, rfl, ⟨_, SqT.of hB⟩, ?_⟩
    refine for_it (walk_tup (K := K) (a := b) (xs := row.map V.int)) (fun i σ H2 => H2 = H ∧ ∃ y2, σ = [some (.ref b), some (.int (boxI (row.take i))), y2]) ⟨rfl, none, rfl⟩ (fun i σ H2 _ ⟨e, _⟩ => by rw [e]; exact SqT.of hB) (fun i x σ H2 H3 hi ⟨eH, y2, eσ⟩ ⟨eY, hx'⟩ => ?_) (fun σ H2 ⟨eH, y2, eσ⟩ => ?_)
    · subst eH eY eσ
      rw [List.length_map] at hi
      have hri : row[i]? = some row[i] := List.getElem?_eq_getElem hi
      have ex : x = .int row[i] := by
        rw [List.getElem?_map, hri] at hx'
        exact (Option.some.inj hx').symm
      subst ex
      have n0 := h0 _ (List.mem_of_getElem? hri)
      have bt := box_take (b := row) (i := i) h0
      refine ⟨_, rfl, _, rfl, row[i], 1, rfl, rfl, _, _, rfl, rfl, .inl ⟨by omega, by omega⟩, rfl, some (.int row[i]), ?_⟩
      have e : boxI (row.take (i + 1)) = boxI (row.take i) * (row[i] + 1) := by
        rw [List.take_add_one, hri]
        unfold boxI
        rw [List.foldl_append]
        rfl
      rw [e]
      rfl
    · subst eH eσ
      rw [List.length_map, List.take_length]
      refine ⟨_, rfl, _, _, rfl, rfl, _, rfl, ?_⟩
      rw [decide_eq_false (by omega)]
      exact iteF q
def spBoth0 : Sp := fun vs H Q _ => ∃ (p b : Addr) (as : List Addr) (ll : List (List Int)) (row : List Int), vs = [.ref p, .ref b] ∧ RowsAt H p as ll ∧ flaw ll = none ∧ IntsAt H b row ∧ row.length = width ll ∧ (∀ n ∈ row, 0 ≤ n ∧ n < G30) ∧ boxI row ≤ 4000 ∧ ∀ H', Same H H' → Q .non H'
theorem ok_both0 {f : Addr} {fd : FuncData} (F : Fun K "look_both" "look_both" sBoth f fd) (CL : Cal P w K mg base CX0 4 "look_bill" ["lot", "bill"] spLookBill0) (CB : Cal P w K mg base CX0 1 "look_box" ["bill"] spBox0) : FnOk P w K mg base CX0 5 f fd ["lot", "bill"] spBoth0 := by
  obtain ⟨fL, fdL, GL, gL, kL, bL⟩ := CL.ex
  obtain ⟨fB, fdB, GB, gB, kB, bB⟩ := CB.ex
  refine F.ok scBt (fun vs H Q E h => ?_) (fun cdv A outer s H vs Q E hr h => ?_)
  · obtain ⟨p, b, as, ll, row, rfl, _⟩ := h
    rfl
  · obtain ⟨p, b, as, ll, row, rfl, hL, ef, hB, hl, hb, hx, q⟩ := h
    have hok := flaw_ok ef
    refine ⟨_, pss_cons (ps_expr (pe_call GL hr (by rfl) gL kL bL .nil pass0 (pa_cons (pv 0) (pa_cons (pv 1) pa_nil)))) (pss_one (ps_expr (pe_call GB (hr.mono (by decide)) (by rfl) gB kB bB .nil pass0 (pa_cons (pv 1) pa_nil)))), ?_⟩
    refine ⟨.ref p, rfl, .ref b, rfl, p, b, as, ll, row, rfl, hL, ef, hB, hl, hb, fun H1 s1 => ?_⟩
    exact ⟨.ref b, rfl, b, row, rfl, hB.same s1, by omega, fun n hn => (hb n hn).1, hx, q H1 s1⟩
def spLessS : Sp := fun vs H Q _ => ∃ (a b : Addr) (xs ys : List Int) (k : Int), vs = [.ref a, .ref b, .int k] ∧ IntsAt H a xs ∧ IntsAt H b ys ∧ xs.length = ys.length ∧ xs.length ≤ 100 ∧ -1000 ≤ k ∧ k ≤ 1000 ∧ ∀ H' p, Same H H' → IntsAt H' p (subR xs ys k) → Q (.ref p) H'
theorem ok_lessS {f : Addr} {fd : FuncData} {k : Nat} {dvs : List V} (F : FunD K "less" "less" (defArgs sLess) (defBody sLess) (defScope sLess) dvs [] f fd) (B : Bl mg) (mz : mg "zip" = none) : FnOk P w K mg base CX0 (k + 1) f fd ["row", "other", "times"] spLessS := by
  refine F.ok scLe (fun vs H Q E h => ?_) (fun cdv A outer s H vs Q E hr h => ?_)
  · obtain ⟨a, b, xs, ys, k, rfl, _⟩ := h
    rfl
  · obtain ⟨a, b, xs, ys, k, rfl, hA, hB, hl, hz, k1, k2, q⟩ := h
    refine ⟨_, pss_one (ps_ret (pe_callTy call_tuple_of (by rfl) B.tuple (by decide +kernel) (pa_cons (pe_lc (own := [("number", 3), ("taken", 4)]) (g := gTup K 2 (gCons (gName 3) (gCons (gName 4) gNil))) (tt := tYes) rfl scLe.nd (pi_zipA (by rfl) mz (pa_cons (pv 0) (pa_cons (pv 1) pa_nil)))
        (blkOk_by (own := [("number", 3), ("taken", 4)]) (N := ["row", "other", "times", "number", "taken"]) (sc := defScope sLess) (by decide +kernel)) (fun _ _ _ _ _ => (pg_tup rfl (pgs_cons (pg_name (i := 3) scLe.nd rfl (Or.inl rfl)) (pgs_cons (pg_name (i := 4) scLe.nd rfl (Or.inl rfl)) pgs_nil)))) (fun _ _ _ _ _ => pts_nil)
        (fun _ _ _ _ _ => (pe_op op_sub (pv 3) (pe_op op_mul (pv 2) (pv 4))))) pa_nil))), ?_⟩
    refine ⟨.ref a, rfl, .ref b, rfl, a, b, _, _, rfl, .inr ⟨SqT.of hA, SqT.of hB, fun D nD => ?_⟩⟩
    refine ⟨fun i m H' => i + m = xs.length ∧ Same H H' ∧ H' D = some (.lst ((((xs.zip ys).take i).map fun q => q.1 - k * q.2).map V.int)), ⟨xs.length, by omega, same_new nD, upd_same⟩, fun i m H' hW => ?_⟩
    obtain ⟨em, sm, hD⟩ := hW
    have sA : SqT K H' a (xs.map V.int) := SqT.of (hA.same sm)
    have sB : SqT K H' b (ys.map V.int) := SqT.of (hB.same sm)
    by_cases hi : i < xs.length
    · have hx : xs[i]? = some (xs[i]'hi) := List.getElem?_eq_getElem hi
      have hy : ys[i]? = some (ys[i]'(by omega)) := List.getElem?_eq_getElem (by omega)
      have g1 : (xs.map V.int)[i]? = some (.int (xs[i]'hi)) := by rw [List.getElem?_map, hx]; rfl
      have g2 : (ys.map V.int)[i]? = some (.int (ys[i]'(by omega))) := by rw [List.getElem?_map, hy]; rfl
      refine .inr ⟨⟨_, _, _, _, sA, sB, g1, g2⟩, fun H2 => Same H H2 ∧ H2 D = some (.lst ((((xs.zip ys).take (i + 1)).map fun q => q.1 - k * q.2).map V.int)), fun H2 hN => ⟨m - 1, by omega, by omega, hN⟩, fun x H2 hyy => ?_⟩
      obtain ⟨T, x1, x2, rfl, nT, rfl, f1, f2⟩ := hyy
      have ex1 := Option.some.inj ((f1 _ sA).symm.trans g1)
      have ex2 := Option.some.inj ((f2 _ sB).symm.trans g2)
      subst ex1 ex2
      have sT := same_new (o := .tup [V.int (xs[i]'hi), V.int (ys[i]'(by omega))]) nT
      refine ⟨T, _, rfl, SqT.of upd_same, rfl, _, _, rfl, _, _, rfl, rfl, rfl, yes (iteT ?_)⟩
      refine ⟨_, rfl, .int k, rfl, _, rfl, k, _, rfl, rfl, .inl ⟨by omega, by omega⟩, _, _, rfl, rfl, _, sT _ _ hD, ?_, same_late (sm.trans sT) nD, ?_⟩
      · rw [List.length_map, List.length_map]
        exact small1000 (Nat.le_trans (List.length_take_le _ _) (by omega))
      · rw [upd_same, List.take_add_one, zipI_at hx hy, List.map_append, List.map_append]
        rfl
    · refine .inl ⟨⟨_, _, sA, sB, .inl ?_⟩, ?_⟩
      · rw [List.length_map]
        omega
      · have e : (xs.zip ys).take i = xs.zip ys := List.take_of_length_le (by rw [List.length_zip]; omega)
        rw [e] at hD
        exact ⟨D, _, rfl, .inl ⟨SqL.of hD, fun t nt => q _ t (sm.trans (same_new nt)) upd_same⟩⟩
end
abbrev NCe : List Str := ["bill", "cells", "amount", "cell", "part"]
theorem scCe : FnScope NCe ["bill"] (defScope sCells) := ⟨rfl, rfl, rfl, by decide +kernel, rfl, by decide +kernel, by decide +kernel⟩
/-- a list of rows in the heap -/
def CellsAt (H : Hp) (l : Addr) (cs : List (List Int)) : Prop := ∃ bs : List Addr, H l = some (.lst (bs.map V.ref)) ∧ Rows H bs cs
theorem CellsAt.same {H H' : Hp} {l : Addr} {cs : List (List Int)} (h : CellsAt H l cs) (s : Same H H') : CellsAt H' l cs := by
  obtain ⟨bs, h1, h2⟩ := h
  exact ⟨bs, s _ _ h1, h2.same s⟩
theorem cells_box {b : List Int} (hb : ∀ n ∈ b, 0 ≤ n) : ∀ {i : Nat}, i ≤ b.length → ((cellsI b i).length : Int) = boxI (b.take i)
  | 0, _ => rfl
  | i + 1, hi => by
    have hg : 0 ≤ b.getD i 0 := by
      rw [List.getD_eq_getElem?_getD, List.getElem?_eq_getElem (show i < b.length by omega)]
      exact hb _ (List.getElem_mem _)
    rw [cells_many, take_snoc (by omega)]
    have ih := cells_box hb (i := i) (by omega)
    unfold boxI at ih ⊢
    rw [List.foldl_append, ← ih, Int.natCast_mul, Int.toNat_of_nonneg (by omega)]
    rfl
section
variable {P : Program} {w : World} {K : PySem.W.Frag} {mg : Str → Option Value} {base : Heap}
def spCells : Sp := fun vs H Q _ => ∃ (b : Addr) (row : List Int), vs = [.ref b] ∧ IntsAt H b row ∧ row.length ≤ 100 ∧ (∀ n ∈ row, 0 ≤ n) ∧ boxI row ≤ 4000 ∧ ∀ H' l, Same H H' → CellsAt H' l (cellsI row row.length) → Q (.ref l) H'
theorem small4000 {n : Nat} (h : n ≤ 4000) : n < sizeLine := Nat.lt_of_le_of_lt h (by decide)
theorem ok_cells {f : Addr} {fd : FuncData} {k : Nat} (F : Fun K "cells_of" "cells_of" sCells f fd) (B : Bl mg) : FnOk P w K mg base CX0 (k + 1) f fd ["bill"] spCells := by
  refine F.ok scCe (fun vs H Q E h => ?_) (fun cdv A outer s H vs Q E hr h => ?_)
  · obtain ⟨b, row, rfl, _⟩ := h
    rfl
  · obtain ⟨b, row, rfl, hB, hz, h0, hx, q⟩ := h
    refine ⟨_, (pss_cons (ps_set (i := 1) scCe.nd rfl (.inl rfl) (pe_lst (pa_cons (pe_tup pa_nil) pa_nil)))
      (pss_cons (ps_for PassesOwn.never rfl (pi_tup (pv 0)) (pg_name (i := 2) scCe.nd rfl (.inr rfl))
        (pss_one (ps_setLc2 (i := 1) (own := [("cell", 3), ("part", 4)]) (vs1 := [4]) (g := gName 3) (g1 := gName 4) (tt := tYes) (tt1 := tYes) rfl scCe.nd rfl rfl (sw_true rfl rfl rfl (by decide +kernel)) (pi_list (pv 1))
          (blkOk_by (own := [("cell", 3), ("part", 4)]) (N := NCe) (sc := defScope sCells) (by decide +kernel)) (by decide) (fun _ _ _ _ _ => pg_name (i := 3) scCe.nd rfl (Or.inl rfl)) (fun _ _ _ _ _ => pts_nil)
          (fun _ _ _ _ _ => pi_range1 (by rfl) B.range (pa_cons (pe_op op_add (pv 2) pe_int) pa_nil)) (fun _ _ _ _ _ => pg_name (i := 4) scCe.nd rfl (Or.inl rfl)) (fun _ _ _ _ _ => pts_nil)
          (fun _ _ _ _ _ => pe_op (r := rCatA K) op_catA (pv 3) (pe_tup (pa_cons (pv 4) pa_nil))))))
      (pss_one (ps_ret (pv 1))))), ?_⟩
    refine ⟨Nat.zero_le _, fun t0 nt0 => ⟨sz_1 _, fun l0 nl0 => ?_⟩⟩
    have s0 := (same_new (o := .tup []) nt0).trans (same_new (o := .lst [.ref t0]) nl0)
    refine ⟨.ref b, rfl, b, rfl, ⟨_, SqT.of (hB.same s0)⟩, ?_⟩
    refine for_it (walk_tup (K := K) (a := b) (xs := row.map V.int)) (fun i σ H2 => Same H H2 ∧ ∃ l y2, σ = [some (.ref b), some (.ref l), y2, none, none] ∧ CellsAt H2 l (cellsI row i))
      ⟨s0, l0, none, rfl, [t0], upd_same, ⟨(same_new nl0) _ _ upd_same, True.intro⟩⟩ (fun i σ H2 _ ⟨s2, _⟩ => SqT.of (hB.same s2)) (fun i x σ H2 H3 hi ⟨s2, l, y2, eσ, bs, hl, hR⟩ ⟨eY, hx'⟩ => ?_) (fun σ H2 ⟨s2, l, y2, eσ, hC⟩ => ?_)
    · subst eY eσ
      rw [List.length_map] at hi
      have hri : row[i]? = some row[i] := List.getElem?_eq_getElem hi
      have ex : x = .int row[i] := by
        rw [List.getElem?_map, hri] at hx'
        exact (Option.some.inj hx').symm
      subst ex
      have n0 := h0 _ (List.mem_of_getElem? hri)
      have eg : row.getD i 0 = row[i] := by rw [List.getD_eq_getElem?_getD, hri]; rfl
      have hbl := hR.len
      have big := cells_box h0 (i := i + 1) (by omega)
      have bt := box_take (b := row) (i := i + 1) h0
      have hmany := cells_many (b := row) (i := i)
      rw [eg] at hmany
      have hrow : row[i] + 1 ≤ 4000 := by
        have h1 : 1 ≤ (cellsI row i).length := by
          have := cells_head h0 (i := i) (by omega)
          cases e : cellsI row i with
          | nil => rw [e] at this; cases this
          | cons c cs => simp
        have h2 : (row[i] + 1).toNat ≤ (cellsI row i).length * (row[i] + 1).toNat := Nat.le_mul_of_pos_left _ (by omega)
        omega
      refine ⟨.ref l, rfl, l, rfl, ⟨_, SqL.of hl⟩, fun D nD => ?_⟩
      have cell : ∀ c : List Int, ∀ j, ((List.range j).map fun (p : Nat) => c ++ [(p : Int)]).length = j := fun c j => by rw [List.length_map, List.length_range]
      -- what is made by the first cells, and by some parts of the next one
      let G : Nat → List (List Int) := fun a => ((cellsI row i).take a).flatMap fun c => (List.range (row[i] + 1).toNat).map fun (p : Nat) => c ++ [(p : Int)]
      have hG : ∀ a, (G a).length ≤ (cellsI row i).length * (row[i] + 1).toNat := fun a => by
        show (((cellsI row i).take a).flatMap _).length ≤ _
        rw [flat_len (n := (row[i] + 1).toNat) fun c _ => cell c _]
        exact Nat.mul_le_mul_right _ (by rw [List.length_take]; omega)
      have mk : ∀ (H4 H5 : Hp) (acc : List (List Int)) (cc : List Int) (cb : Addr) (p : Nat), Same H3 H4 → (∃ ds : List Addr, H4 D = some (.lst (ds.map V.ref)) ∧ Rows H4 ds acc) → acc.length < 4000 → Same H4 H5 → IntsAt H5 cb cc →
          ∃ ac, H5 D = some (.lst ac) ∧ ac.length < sizeLine ∧ Same H3 (upd H5 D (.lst (ac ++ [.ref cb]))) ∧ ∃ ds : List Addr, upd H5 D (.lst (ac ++ [.ref cb])) D = some (.lst (ds.map V.ref)) ∧ Rows (upd H5 D (.lst (ac ++ [.ref cb]))) ds (acc ++ [cc]) := fun H4 H5 acc cc cb p s34 ⟨ds, hd, hdr⟩ hsm s45 hcb => by
        have hd5 := s45 _ _ hd
        refine ⟨_, hd5, ?_, same_late (s34.trans s45) nD, ds ++ [cb], ?_, ?_⟩
        · rw [List.length_map, hdr.len]
          exact small4000 (by omega)
        · rw [upd_same, List.map_append]
          rfl
        · exact ((hdr.same s45).lput hd5).app ⟨by rw [upd_ne (ne_of hcb hd5 (fun z => by cases z))]; exact hcb, True.intro⟩
      refine ⟨fun a m H4 => a + m = bs.length ∧ Same H3 H4 ∧ ∃ ds : List Addr, H4 D = some (.lst (ds.map V.ref)) ∧ Rows H4 ds (G a), ⟨bs.length, by omega, same_new nD, [], upd_same, True.intro⟩, fun a m H4 hW => ?_⟩
      obtain ⟨em, s4, hds⟩ := hW
      by_cases ha : a < bs.length
      · have hba : bs[a]? = some (bs[a]'ha) := List.getElem?_eq_getElem ha
        obtain ⟨c, hc1, hc2⟩ := hR.at hba
        have hli : H4 l = some (.lst (bs.map V.ref)) := s4 _ _ hl
        have g1 : (bs.map V.ref)[a]? = some (.ref (bs[a]'ha)) := by rw [List.getElem?_map, hba]; rfl
        refine .inr ⟨⟨_, _, SqL.of hli, g1⟩, fun H5 => Same H3 H5 ∧ ∃ ds : List Addr, H5 D = some (.lst (ds.map V.ref)) ∧ Rows H5 ds (G (a + 1)), fun H5 hN => ⟨m - 1, by omega, by omega, hN⟩, fun x H5 hy => ?_⟩
        obtain ⟨e5, f5⟩ := hy
        subst e5
        have exx : x = .ref (bs[a]'ha) := Option.some.inj ((f5 _ (SqL.of hli)).symm.trans g1)
        subst exx
        have eG : ∀ z : Nat, z ≤ (row[i] + 1).toNat → (G a ++ (List.range z).map fun (p : Nat) => c ++ [(p : Int)]).length ≤ (cellsI row i).length * (row[i] + 1).toNat := fun z hz' => by
          rw [List.length_append, cell]
          show (((cellsI row i).take a).flatMap _).length + z ≤ _
          rw [flat_len (n := (row[i] + 1).toNat) fun c _ => cell c _, List.length_take, Nat.min_eq_left (by omega)]
          have : (a + 1) * (row[i] + 1).toNat ≤ (cellsI row i).length * (row[i] + 1).toNat := Nat.mul_le_mul_right _ (by omega)
          rw [Nat.add_mul] at this
          omega
        refine ⟨rfl, yes (iteT ?_)⟩
        refine ⟨.int row[i], rfl, row[i], 1, rfl, rfl, _, rfl, by omega, by omega, ?_⟩
        refine ⟨fun j mm H6 => j + mm = (row[i] + 1).toNat ∧ Same H3 H6 ∧ ∃ ds : List Addr, H6 D = some (.lst (ds.map V.ref)) ∧ Rows H6 ds (G a ++ (List.range j).map fun (p : Nat) => c ++ [(p : Int)]), ⟨(row[i] + 1).toNat, by omega, s4, by simpa using hds⟩, fun j mm H6 hW => ?_⟩
        obtain ⟨em6, s6, hds6⟩ := hW
        by_cases hj : j < (row[i] + 1).toNat
        · refine .inr ⟨hj, fun H7 => Same H3 H7 ∧ ∃ ds : List Addr, H7 D = some (.lst (ds.map V.ref)) ∧ Rows H7 ds (G a ++ (List.range (j + 1)).map fun (p : Nat) => c ++ [(p : Int)]), fun H7 hN => ⟨mm - 1, by omega, by omega, hN⟩, fun x H7 hy => ?_⟩
          obtain ⟨e7, ex7⟩ := hy
          subst e7 ex7
          have ez : (0 : Int) + (j : Nat) = ((j : Nat) : Int) := by omega
          rw [ez]
          refine ⟨rfl, yes (iteT ?_)⟩
          refine ⟨.ref (bs[a]'ha), rfl, .int (j : Nat), rfl, sz_1 _, fun t nt => ?_⟩
          have st := same_new (o := .tup [.int (j : Nat)]) nt
          have hcc : IntsAt H7 (bs[a]'ha) c := s6 _ _ hc2
          have hcl : c.length ≤ 100 := by rw [cells_len (List.mem_of_getElem? hc1)]; omega
          refine cat_ints (ys := [(j : Int)]) (hcc.same st) (show IntsAt _ t [(j : Int)] from upd_same) (by rw [List.length_singleton]; omega) fun z H8 s8 hz8 => ?_
          obtain ⟨ac, m1, m2, m3, ds, m4, m5⟩ := mk H7 H8 _ (c ++ [(j : Int)]) z j s6 hds6 (by
            have := eG (j + 1) hj
            rw [List.range_succ, List.map_append, ← List.append_assoc, List.length_append] at this
            have e1 : ([j].map fun (p : Nat) => c ++ [(p : Int)]).length = 1 := rfl
            omega) (st.trans s8) hz8
          refine ⟨ac, m1, m2, m3, ds, m4, ?_⟩
          rw [List.range_succ, List.map_append, ← List.append_assoc]
          exact m5
        · refine .inl ⟨show (row[i] + 1).toNat ≤ j by omega, s6, ?_⟩
          have ej : j = (row[i] + 1).toNat := by omega
          obtain ⟨ds, d1, d2⟩ := hds6
          refine ⟨ds, d1, ?_⟩
          have e2 : G (a + 1) = G a ++ (List.range j).map fun (p : Nat) => c ++ [(p : Int)] := by
            show ((cellsI row i).take (a + 1)).flatMap _ = ((cellsI row i).take a).flatMap _ ++ _
            rw [List.take_add_one, hc1, List.flatMap_append, ej]
            simp
          rw [e2]
          exact d2
      · refine .inl ⟨⟨_, SqL.of (s4 _ _ hl), by rw [List.length_map]; omega⟩, s2.trans s4, D, _, rfl, ?_⟩
        obtain ⟨ds, d1, d2⟩ := hds
        refine ⟨ds, d1, ?_⟩
        have e2 : G a = cellsI row (i + 1) := by
          show ((cellsI row i).take a).flatMap _ = (cellsI row i).flatMap _
          rw [List.take_of_length_le (by omega), eg]
        rw [← e2]
        exact d2
    · subst eσ
      rw [List.length_map] at hC
      exact ⟨.ref l, rfl, q H2 l s2 hC⟩
end
theorem scOm : FnScope ["cells", "table", "hold", "fuller", "cell", "many"] ["cells", "table", "hold"] (defScope sOneMore) := ⟨rfl, rfl, rfl, by decide +kernel, rfl, by decide +kernel, by decide +kernel⟩
theorem scTb : FnScope ["lot", "bill", "cells", "tables", "hold"] ["lot", "bill"] (defScope sTables) := ⟨rfl, rfl, rfl, by decide +kernel, rfl, by decide +kernel, by decide +kernel⟩
theorem scHm : FnScope ["lot", "bill"] ["lot", "bill"] (defScope sHowMany) := ⟨rfl, rfl, rfl, by decide +kernel, rfl, by decide +kernel, by decide +kernel⟩
/-- a row as a key -/
def kI (r : List Int) : List Key := r.map Sum.inl
theorem kI_V (r : List Int) : (kI r).map kV = r.map V.int := by
  unfold kI
  rw [List.map_map]
  rfl
theorem kI_inj : ∀ {r s : List Int}, kI r = kI s → r = s
  | [], [], _ => rfl
  | x :: r, y :: s, h => by
    have h' : (Sum.inl x :: kI r : List Key) = Sum.inl y :: kI s := h
    obtain ⟨h1, h2⟩ := List.cons.inj h'
    rw [Sum.inl.inj h1, kI_inj h2]
  | [], _ :: _, h => by cases h
  | _ :: _, [], h => by cases h
/-- a table: of the rows of S, how many ways there are by the kinds of l, where there are any -/
def TabIs (kvs : List (List Key × V)) (S : List (List Int)) (l : List (List Int)) : Prop := ∀ r : List Int, valV kvs (kI r) = if r ∈ S ∧ 0 < cnt l r then some (V.int (cnt l r : Nat)) else none
theorem TabIs.get {kvs : List (List Key × V)} {S l : List (List Int)} {r : List Int} (h : TabIs kvs S l) (hr : r ∈ S ∨ cnt l r = 0) : (valV kvs (kI r)).getD (V.int 0) = V.int (cnt l r : Nat) := by
  rw [h r]
  by_cases c : r ∈ S ∧ 0 < cnt l r
  · rw [if_pos c]
    rfl
  · rw [if_neg c]
    have : cnt l r = 0 := by
      rcases hr with hr | hr
      · by_cases z : 0 < cnt l r
        · exact absurd ⟨hr, z⟩ c
        · omega
      · exact hr
    rw [this]
    rfl
theorem TabIs.more {kvs : List (List Key × V)} {S l : List (List Int)} {c : List Int} (h : TabIs kvs S l) (hc : c ∉ S) (hp : 0 < cnt l c) : TabIs (putK kvs (kI c) (V.int (cnt l c : Nat))) (S ++ [c]) l := fun r => by
  rw [valV_put]
  by_cases e : r = c
  · subst e
    rw [if_pos rfl, if_pos ⟨List.mem_append_right _ List.mem_cons_self, hp⟩]
  · rw [if_neg (fun z => e (kI_inj z)), h r]
    have : (r ∈ S ++ [c]) ↔ r ∈ S := by
      rw [List.mem_append, List.mem_singleton]
      exact ⟨fun q => q.elim id fun z => absurd z e, .inl⟩
    by_cases q : r ∈ S ∧ 0 < cnt l r
    · rw [if_pos q, if_pos ⟨this.mpr q.1, q.2⟩]
    · rw [if_neg q, if_neg fun z => q ⟨this.mp z.1, z.2⟩]
theorem TabIs.skip {kvs : List (List Key × V)} {S l : List (List Int)} {c : List Int} (h : TabIs kvs S l) (hp : cnt l c = 0) : TabIs kvs (S ++ [c]) l := fun r => by
  rw [h r]
  by_cases e : r = c
  · subst e
    rw [if_neg (fun z => by omega), if_neg (fun z => by omega)]
  · have : (r ∈ S ++ [c]) ↔ r ∈ S := by
      rw [List.mem_append, List.mem_singleton]
      exact ⟨fun q => q.elim id fun z => absurd z e, .inl⟩
    by_cases q : r ∈ S ∧ 0 < cnt l r
    · rw [if_pos q, if_pos ⟨this.mpr q.1, q.2⟩]
    · rw [if_neg q, if_neg fun z => q ⟨this.mp z.1, z.2⟩]
theorem TabIs.first {S : List (List Int)} {g : Nat} (hS : ∀ r ∈ S, r.length = g) (h0 : List.replicate g 0 ∈ S) : TabIs [(kI (List.replicate g 0), V.int 1)] S [] := fun r => by
  have ev : valV [(kI (List.replicate g 0), V.int 1)] (kI r) = if kI r = kI (List.replicate g 0) then some (V.int 1) else none := by
    have := valV_put ([] : List (List Key × V)) (kI (List.replicate g 0)) (kI r) (V.int 1)
    rw [valV_nil] at this
    exact this
  rw [ev]
  by_cases e : r = List.replicate g 0
  · subst e
    have hz : cnt [] (List.replicate g (0 : Int)) = 1 := by
      unfold cnt
      rw [if_pos (zeroB_iff.mpr fun n hn => List.eq_of_mem_replicate hn)]
    rw [if_pos rfl, if_pos ⟨h0, by rw [hz]; decide⟩, hz]
    rfl
  · rw [if_neg (fun z => e (kI_inj z)), if_neg]
    rintro ⟨h1, h2⟩
    refine e ?_
    have hz : zeroB r = true := by
      unfold cnt at h2
      by_cases z : zeroB r = true
      · exact z
      · rw [if_neg z] at h2
        cases h2
    exact List.eq_replicate_iff.mpr ⟨hS r h1, zeroB_iff.mp hz⟩
/-- the dict of a table in the heap -/
def TabAt (H : Hp) (d : Addr) (S l : List (List Int)) : Prop := ∃ kvs, H d = some (.dT kvs) ∧ TabIs kvs S l
theorem TabAt.same {H H' : Hp} {d : Addr} {S l : List (List Int)} (h : TabAt H d S l) (s : Same H H') : TabAt H' d S l := by
  obtain ⟨kvs, h1, h2⟩ := h
  exact ⟨kvs, s _ _ h1, h2⟩
/-- a bill whose cells are counted -/
structure BoxOk (b : List Int) : Prop where
  nn : ∀ n ∈ b, 0 ≤ n
  few : b.length ≤ 100
  box : boxI b ≤ 4000
abbrev cellsB (b : List Int) : List (List Int) := cellsI b b.length
theorem BoxOk.many {b : List Int} (h : BoxOk b) : (cellsB b).length ≤ 4000 := by
  have := cells_box h.nn (i := b.length) (Nat.le_refl _)
  rw [List.take_length] at this
  have := h.box
  show (cellsI b b.length).length ≤ 4000
  omega
theorem BoxOk.nodup {b : List Int} {i : Nat} {c : List Int} (hc : (cellsB b)[i]? = some c) : c ∉ (cellsB b).take i := fun hm => by
  obtain ⟨j, hj, ej⟩ := List.mem_iff_getElem.mp hm
  rw [List.length_take] at hj
  rw [List.getElem_take] at ej
  obtain ⟨hi, ei⟩ := List.getElem?_eq_some_iff.mp hc
  have hj' : j < min i (cellsI b b.length).length := hj
  have hi' : i < (cellsI b b.length).length := hi
  have := List.pairwise_iff_getElem.mp (cells_rise (b := b) (i := b.length)) j i (by omega) hi' (by omega)
  rw [ej, ei] at this
  exact lx_asymm this this
section
variable {P : Program} {w : World} {K : PySem.W.Frag} {mg : Str → Option Value} {base : Heap}
/-- less, with its default -/
def CalLessS (P : Program) (w : World) (K : PySem.W.Frag) (mg : Str → Option Value) (base : Heap) : Prop := ∃ (f : Addr) (fd : FuncData) (t : Tok), FnOk P w K mg base CX0 1 f fd ["row", "other", "times"] spLessS ∧ mg "less" = some (.ref f) ∧ PySem.W.keepIn K (.ref f) = true ∧ Binds K fd ["row", "other", "times"] [.int 1 t]
def spOneMore : Sp := fun vs H Q _ => ∃ (l d hd : Addr) (b h : List Int) (t : List (List Int)), vs = [.ref l, .ref d, .ref hd] ∧ BoxOk b ∧ CellsAt H l (cellsB b) ∧ TabAt H d (cellsB b) t ∧ IntsAt H hd h ∧ (∀ x ∈ h :: t, Kd b.length x) ∧
  ∀ H' d', Same H H' → TabAt H' d' (cellsB b) (h :: t) → Q (.ref d') H'
theorem ok_oneMore {f : Addr} {fd : FuncData} (F : Fun K "with_one_more" "with_one_more" sOneMore f fd) (CLe : CalLessS P w K mg base) : FnOk P w K mg base CX0 2 f fd ["cells", "table", "hold"] spOneMore := by
  obtain ⟨fL, fdL, tL, GL, gL, kL, bL⟩ := CLe
  have vd : Vals [V.int 1] [Value.int 1 tL] := .cons ⟨_, rfl⟩ .nil
  refine F.ok scOm (fun vs H Q E h => ?_) (fun cdv A outer s H vs Q E hr h => ?_)
  · obtain ⟨l, d, hd, b, h, t, rfl, _⟩ := h
    rfl
  · obtain ⟨l, d, hd, b, h, t, rfl, bo, ⟨bs, hl, hR⟩, ⟨kvs0, hd0, T0⟩, hH, hk, q⟩ := h
    have hu := hu_of hr
    refine ⟨_, (pss_cons (ps_set (i := 3) scOm.nd rfl (.inl rfl) pe_dnewT)
      (pss_cons (ps_for PassesOwn.never rfl (pi_list (pv 0)) (pg_name (i := 4) scOm.nd rfl (.inl rfl))
        (pss_cons (ps_set (i := 5) scOm.nd rfl (.inl rfl) (pe_op op_add (pe_dget2 hu (pv 1) (pv 4) pe_int ⟨rfl, rfl, rfl, rfl⟩) (pe_dget2 hu (pv 3) (pe_call GL hr (by rfl) gL kL bL vd pass0 (pa_cons (pv 4) (pa_cons (pv 2) pa_nil))) pe_int ⟨rfl, rfl, rfl, rfl⟩)))
        (pss_one (ps_if (pt_cmpR op_gt (pv 5) pe_int (nomark _)) (pss_one (ps_dput hu (pv 3) (pv 4) (pv 5) rfl)) pss_nil))))
      (pss_one (ps_ret (pv 3))))), ?_⟩
    have kh := hk h List.mem_cons_self
    have hkt : ∀ x ∈ t, Kd b.length x := fun x hx => hk x (List.mem_cons_of_mem _ hx)
    have hlen := hR.len
    have hmany := bo.many
    intro D nD
    have sD := same_new (o := .dT []) nD
    refine ⟨.ref l, rfl, l, rfl, ⟨_, SqL.of (sD _ _ hl)⟩, ?_⟩
    refine for_list (K := K) (a := l) (xs := bs.map V.ref) (fun i σ H' => Same H H' ∧ (∃ y4 y5, σ = [some (.ref l), some (.ref d), some (.ref hd), some (.ref D), y4, y5]) ∧ ∃ kvs, H' D = some (.dT kvs) ∧ kvs.length ≤ i ∧ TabIs kvs ((cellsB b).take i) (h :: t))
      ⟨sD, ⟨none, none, rfl⟩, [], upd_same, Nat.zero_le _, fun r => by rw [List.take_zero, valV_nil, if_neg (fun z => by cases z.1)]⟩ (fun i σ H' _ hI => SqL.of (hI.1 _ _ hl)) (fun i x σ H' hx hI => ?_) (fun σ H' hI => ?_)
    · obtain ⟨sm, ⟨y4, y5, rfl⟩, kvs, hD, hkl, TI⟩ := hI
      obtain ⟨cb, hcb, rfl⟩ : ∃ n, bs[i]? = some n ∧ x = V.ref n := by
        rw [List.getElem?_map] at hx
        cases e : bs[i]? with
        | none => rw [e] at hx; cases hx
        | some n => rw [e] at hx; exact ⟨n, rfl, (Option.some.inj hx).symm⟩
      obtain ⟨c, hc1, hc2⟩ := hR.at hcb
      have hil : i < (cellsB b).length := (List.getElem?_eq_some_iff.mp hc1).1
      have hcm : c ∈ cellsB b := List.mem_of_getElem? hc1
      have hcl : c.length = b.length := cells_len hcm
      have hclh : c.length = h.length := by rw [hcl, kh.1]
      have hcb' : H' cb = some (.tup ((kI c).map kV)) := by rw [kI_V]; exact sm _ _ hc2
      refine ⟨.ref d, rfl, d, rfl, .inr ⟨_, .inl (sm _ _ hd0)⟩, .ref cb, rfl, _, DGet.t (sm _ _ hd0) hcb', ?_⟩
      rw [T0.get (.inl hcm)]
      refine ⟨.ref D, rfl, D, rfl, .inr ⟨_, .inl hD⟩, .ref cb, rfl, .ref hd, rfl, cb, hd, c, h, 1, rfl, sm _ _ hc2, sm _ _ hH, hclh, by rw [hcl]; exact bo.few, by decide, by decide, fun H2 z s2 hz => ?_⟩
      have hz' : H2 z = some (.tup ((kI (subR c h 1)).map kV)) := by rw [kI_V]; exact hz
      refine ⟨_, DGet.t (s2 _ _ hD) hz', ?_⟩
      have inS : subR c h 1 ∈ (cellsB b).take i ∨ cnt (h :: t) (subR c h 1) = 0 := by
        cases e : nnB (subR c h 1) with
        | true => exact .inl (cell_ahead bo.nn kh hc1 e)
        | false => exact .inr (cnt_neg hk (by rw [subR_len hclh, hcl]) e)
      rw [TI.get inS]
      have es : (cnt t c : Int) + (cnt (h :: t) (subR c h 1) : Int) = (cnt (h :: t) c : Int) := by
        rw [cnt_step hk hcl]
        omega
      refine ⟨_, _, rfl, rfl, ?_⟩
      refine ⟨_, rfl, (cnt t c : Int) + (cnt (h :: t) (subR c h 1) : Int), 0, rfl, rfl, _, rfl, ?_⟩
      rw [es]
      have etk : (cellsB b).take (i + 1) = (cellsB b).take i ++ [c] := by rw [List.take_add_one, hc1]; rfl
      refine ite2 (fun p1 => ?_) (fun p1 => ?_)
      · have p1' : 0 < cnt (h :: t) c := by
          have := of_decide_eq_true p1
          omega
        refine ⟨_, rfl, .ref D, rfl, .ref cb, rfl, D, _, rfl, DPut.t (s2 _ _ hD) (s2 _ _ hcb') (Nat.lt_of_le_of_lt hkl (small4000 (by omega))), same_late (sm.trans s2) nD, ⟨_, _, rfl⟩, _, upd_same, Nat.le_trans (length_putK _ _ _) (by omega), ?_⟩
        rw [etk]
        have := TI.more (BoxOk.nodup hc1) p1'
        rw [← es] at this
        exact this
      · have p1' : cnt (h :: t) c = 0 := by
          by_cases z : 0 < cnt (h :: t) c
          · exact absurd (decide_eq_true (by omega)) p1
          · omega
        refine ⟨sm.trans s2, ⟨_, _, rfl⟩, kvs, s2 _ _ hD, by omega, ?_⟩
        rw [etk]
        exact TI.skip p1'
    · obtain ⟨sm, ⟨y4, y5, rfl⟩, kvs, hD, _, TI⟩ := hI
      rw [List.length_map, hlen, List.take_length] at TI
      exact ⟨.ref D, rfl, q H' D sm ⟨kvs, hD, TI⟩⟩
/-- for each kind, and behind all, its table -/
def TabsAt (H : Hp) (l : Addr) (S ll : List (List Int)) : Prop := ∃ ds : List Addr, H l = some (.lst (ds.map V.ref)) ∧ ds.length = ll.length + 1 ∧ ∀ (k : Nat) (d : Addr), ds[k]? = some d → TabAt H d S (ll.drop k)
def spTables : Sp := fun vs H Q _ => ∃ (p bl : Addr) (as : List Addr) (ll : List (List Int)) (b : List Int), vs = [.ref p, .ref bl] ∧ RowsAt H p as ll ∧ ll.length ≤ 100 ∧ IntsAt H bl b ∧ BoxOk b ∧ (∀ x ∈ ll, Kd b.length x) ∧ ∀ H' l, Same H H' → TabsAt H' l (cellsB b) ll → Q (.ref l) H'
theorem ok_tables {f : Addr} {fd : FuncData} (F : Fun K "tables_of" "tables_of" sTables f fd) (B : Bl mg) (mr : mg "reversed" = none) (CC : Cal P w K mg base CX0 1 "cells_of" ["bill"] spCells) (CO : Cal P w K mg base CX0 2 "with_one_more" ["cells", "table", "hold"] spOneMore) : FnOk P w K mg base CX0 3 f fd ["lot", "bill"] spTables := by
  obtain ⟨fC, fdC, GC, gC, kC, bC⟩ := CC.ex
  obtain ⟨fO, fdO, GO, gO, kO, bO⟩ := CO.ex
  refine F.ok scTb (fun vs H Q E h => ?_) (fun cdv A outer s H vs Q E hr h => ?_)
  · obtain ⟨p, bl, as, ll, b, rfl, _⟩ := h
    rfl
  · obtain ⟨p, bl, as, ll, b, rfl, R, hz, hB, bo, hk, q⟩ := h
    have hu := hu_of hr
    refine ⟨_, (pss_cons (ps_set (i := 2) scTb.nd rfl (.inl rfl) (pe_call GC (hr.mono (by decide)) (by rfl) gC kC bC .nil pass0 (pa_cons (pv 1) pa_nil)))
      (pss_cons (ps_set (i := 3) scTb.nd rfl (.inl rfl) (pe_lst (pa_cons (pe_disp1T hu (pe_ix ix_list (pv 2) pe_int (fun _ _ => rfl)) pe_int) pa_nil)))
      (pss_cons (ps_for PassesOwn.never rfl (RT.pi_revA (by rfl) mr (pv 0)) (pg_name (i := 4) scTb.nd rfl (.inl rfl))
        (pss_one (ps_expr (pe_bm PySem.F.plainAttrs_list PySem.F.slot_list_append PySem.F.type_list_append mt_append (pv 3) (pa_cons (pe_call GO hr (by rfl) gO kO bO .nil pass0 (pa_cons (pv 2) (pa_cons (pe_ix ix_list (pv 3) (pe_un un_neg pe_int) (fun _ _ => rfl)) (pa_cons (pv 4) pa_nil)))) pa_nil)))))
      (pss_one (ps_ret (pe_revL (pv 3))))))), ?_⟩
    have hlen := R.2.len
    refine ⟨.ref bl, rfl, bl, b, rfl, hB, bo.few, bo.nn, bo.box, fun H1 l s1 hC => ?_⟩
    obtain ⟨bs, hl, hbs⟩ := hC
    have hhd := cells_head bo.nn (i := b.length) (Nat.le_refl _)
    have hb0 : ∃ c0, bs[0]? = some c0 := by
      cases e : bs with
      | nil =>
        rw [e] at hbs
        cases e2 : cellsB b with
        | nil => rw [show cellsI b b.length = [] from e2] at hhd; cases hhd
        | cons c cs => rw [show cellsI b b.length = c :: cs from e2] at hbs; exact hbs.elim
      | cons c0 cs => exact ⟨c0, rfl⟩
    obtain ⟨c0, hc0⟩ := hb0
    obtain ⟨r0, hr1, hr2⟩ := hbs.at hc0
    have er0 : r0 = List.replicate b.length 0 := Option.some.inj (hr1.symm.trans hhd)
    subst er0
    intro D nD
    have sD := same_new (o := .dT []) nD
    have hc0' : (upd H1 D (.dT [])) c0 = some (.tup ((kI (List.replicate b.length 0)).map kV)) := by rw [kI_V]; exact sD _ _ hr2
    refine ⟨.ref l, rfl, l, _, 0, .ref c0, rfl, rfl, SqL.of (sD _ _ hl), atI_nat (j := 0) (by rw [List.getElem?_map, hc0]; rfl), kI (List.replicate b.length 0), c0, rfl, hc0', upd_same, ?_⟩
    refine ⟨sz_1 _, fun T nT => ?_⟩
    have nD0 : H D = none := s1.free nD
    have sE : Same H1 (upd (upd H1 D (.dT [])) D (.dT [(kI (List.replicate b.length 0), V.int 1)])) := same_late sD nD
    have sT := same_new (o := .lst [.ref D]) nT
    have s2 : Same H1 _ := sE.trans sT
    have nT1 : H1 T = none := sE.free nT
    have nT0 : H T = none := s1.free nT1
    have lT : l ≠ T := fun e => by rw [e, nT1] at hl; cases hl
    have tab0 : TabAt (upd (upd (upd H1 D (.dT [])) D (.dT [(kI (List.replicate b.length 0), V.int 1)])) T (.lst [.ref D])) D (cellsB b) [] := ⟨_, sT _ _ upd_same, TabIs.first (fun r hr => cells_len hr) (List.mem_of_getElem? hr1)⟩
    refine ⟨.ref p, rfl, p, as.map V.ref, rfl, .inr ⟨SqT.of ((R.same s1).same s2).1, ?_⟩⟩
    refine RT.for_ItvT (K := K) (a := p) (xs := as.map V.ref) (fun i σ H' => Same H1 H' ∧ (∃ y4, σ = [some (.ref p), some (.ref bl), some (.ref l), some (.ref T), y4]) ∧ ∃ (ts : List Addr) (z : Addr), H' T = some (.lst ((ts ++ [z]).map V.ref)) ∧ ts.length = i ∧ ∀ (k : Nat) (d : Addr), (ts ++ [z])[k]? = some d → TabAt H' d (cellsB b) (ll.drop (ll.length - k)))
      ⟨s2, ⟨none, rfl⟩, [], D, upd_same, rfl, fun k d hkd => ?_⟩ (fun i σ H' hI => SqT.of ((R.same s1).same hI.1).1) (fun i x σ H' hi hx hI => ?_) (fun σ H' hI => ?_)
    · match k, hkd with
      | 0, hkd =>
        cases Option.some.inj hkd
        rw [Nat.sub_zero, List.drop_length]
        exact tab0
      | k + 1, hkd => simp at hkd
    · obtain ⟨sm, ⟨y4, rfl⟩, ts, z, hT, htl, htab⟩ := hI
      rw [List.length_map] at hi hx
      have hj : as.length - 1 - i < as.length := by omega
      have haj : as[as.length - 1 - i]? = some (as[as.length - 1 - i]'hj) := List.getElem?_eq_getElem hj
      obtain ⟨h, hh1, hh2⟩ := R.2.at haj
      have ex : x = .ref (as[as.length - 1 - i]'hj) := by
        rw [List.getElem?_map, haj] at hx
        exact (Option.some.inj hx).symm
      subst ex
      have edr : ll.drop (ll.length - (i + 1)) = h :: ll.drop (ll.length - i) := by
        rw [List.drop_eq_getElem_cons (show ll.length - (i + 1) < ll.length by omega)]
        have e1 : ll.length - (i + 1) = as.length - 1 - i := by omega
        obtain ⟨q1, q2⟩ := List.getElem?_eq_some_iff.mp hh1
        congr 1
        · rw [← q2]
          congr 1
        · congr 1
          omega
      have hkk : ∀ x ∈ h :: ll.drop (ll.length - i), Kd b.length x := fun x hx => hk x (by rw [← edr] at hx; exact List.mem_of_mem_drop hx)
      have htz : TabAt H' z (cellsB b) (ll.drop (ll.length - i)) := htab i z (by rw [List.getElem?_append_right (by omega), htl, Nat.sub_self]; rfl)
      refine ⟨.ref T, rfl, .inl ⟨rfl, _, SqL.of hT⟩, .ref l, rfl, .ref T, rfl, 1, rfl, T, _, -1, .ref z, rfl, rfl, SqL.of hT, by rw [List.map_append]; exact atI_last _ _, .ref (as[as.length - 1 - i]'hj), rfl, l, z, _, b, h, _, rfl, bo, ⟨bs, sm _ _ hl, hbs.same sm⟩, htz, sm _ _ (s1 _ _ hh2), hkk, fun H2 d' s3 hd' => ?_⟩
      have hT2 := s3 _ _ hT
      have keep : ∀ (d : Addr) (l' : List (List Int)), TabAt H2 d (cellsB b) l' → TabAt (upd H2 T (.lst ((ts ++ [z]).map V.ref ++ [.ref d']))) d (cellsB b) l' := fun d l' ⟨kvs, k1, k2⟩ => ⟨kvs, by rw [upd_ne (ne_of k1 hT2 (fun z => by cases z))]; exact k1, k2⟩
      refine ⟨T, _, _, rfl, rfl, hT2, ?_, same_late (sm.trans s3) nT1, ⟨_, rfl⟩, ts ++ [z], d', ?_, ?_, fun k d hkd => ?_⟩
      · rw [List.length_map, List.length_append]
        exact small1000 (by show ts.length + 1 ≤ 1000; omega)
      · rw [upd_same, List.map_append (l₁ := ts ++ [z])]
        rfl
      · rw [List.length_append, htl]
        rfl
      · by_cases c : k < (ts ++ [z]).length
        · rw [List.getElem?_append_left c] at hkd
          exact keep d _ ((htab k d hkd).same s3)
        · rw [List.getElem?_append_right (by omega)] at hkd
          have ek : k = i + 1 := by
            rw [List.length_append] at c hkd
            have e1 : [z].length = 1 := rfl
            have : k - (ts.length + 1) < 1 := by
              have := (List.getElem?_eq_some_iff.mp hkd).1
              simpa using this
            omega
          subst ek
          have e0 : i + 1 - (ts ++ [z]).length = 0 := by
            rw [List.length_append, htl]
            exact Nat.sub_self _
          rw [e0] at hkd
          cases Option.some.inj hkd
          rw [edr]
          exact keep d' _ hd'
    · obtain ⟨sm, ⟨y4, rfl⟩, ts, z, hT, htl, htab⟩ := hI
      rw [List.length_map] at htl
      refine ⟨.ref T, rfl, T, _, rfl, SqL.of hT, fun l2 nl2 => ?_⟩
      refine q _ l2 (s1.trans (sm.trans (same_new nl2))) ⟨(ts ++ [z]).reverse, by rw [upd_same, List.map_reverse], by rw [List.length_reverse, List.length_append, htl, hlen]; rfl, fun k d hkd => ?_⟩
      have hkl := (List.getElem?_eq_some_iff.mp hkd).1
      rw [List.length_reverse, List.length_append] at hkl
      have e1 : [z].length = 1 := rfl
      rw [List.getElem?_reverse (by rw [List.length_append]; omega)] at hkd
      have := htab _ d hkd
      have ek : ll.length - ((ts ++ [z]).length - 1 - k) = k := by
        rw [List.length_append]
        omega
      rw [ek] at this
      exact this.same (same_new nl2)
def spHowMany : Sp := fun vs H Q _ => ∃ (p bl : Addr) (as : List Addr) (ll : List (List Int)) (b : List Int), vs = [.ref p, .ref bl] ∧ RowsAt H p as ll ∧ flaw ll = none ∧ IntsAt H bl b ∧ b.length = width ll ∧ (∀ n ∈ b, 0 ≤ n ∧ n < G30) ∧ boxI b ≤ 4000 ∧ ∀ H', Same H H' → Q (.int (cnt ll b : Nat)) H'
theorem ok_howMany {f : Addr} {fd : FuncData} (F : Fun K "how_many" "how_many" sHowMany f fd) (CB : Cal P w K mg base CX0 5 "look_both" ["lot", "bill"] spBoth0) (CT : Cal P w K mg base CX0 3 "tables_of" ["lot", "bill"] spTables) : FnOk P w K mg base CX0 6 f fd ["lot", "bill"] spHowMany := by
  obtain ⟨fB, fdB, GB, gB, kB, bB⟩ := CB.ex
  obtain ⟨fT, fdT, GT, gT, kT, bT⟩ := CT.ex
  refine F.ok scHm (fun vs H Q E h => ?_) (fun cdv A outer s H vs Q E hr h => ?_)
  · obtain ⟨p, bl, as, ll, b, rfl, _⟩ := h
    rfl
  · obtain ⟨p, bl, as, ll, b, rfl, R, ef, hB, hl, hb, hx, q⟩ := h
    have hu := hu_of hr
    have hok := flaw_ok ef
    refine ⟨_, pss_cons (ps_expr (pe_call GB hr (by rfl) gB kB bB .nil pass0 (pa_cons (pv 0) (pa_cons (pv 1) pa_nil))))
      (pss_one (ps_ret (pe_dget2 hu (pe_ix ix_list (pe_call GT (hr.mono (by decide)) (by rfl) gT kT bT .nil pass0 (pa_cons (pv 0) (pa_cons (pv 1) pa_nil))) pe_int (fun _ _ => rfl)) (pv 1) pe_int ⟨rfl, rfl, rfl, rfl⟩))), ?_⟩
    have bo : BoxOk b := ⟨fun n hn => (hb n hn).1, by omega, hx⟩
    have hkd : ∀ x ∈ ll, Kd b.length x := fun x hx => by
      rw [hl]
      exact flaw_kd ef x hx
    refine ⟨.ref p, rfl, .ref bl, rfl, p, bl, as, ll, b, rfl, R, ef, hB, hl, hb, hx, fun H1 s1 => ?_⟩
    refine ⟨.ref p, rfl, .ref bl, rfl, p, bl, as, ll, b, rfl, R.same s1, by omega, hB.same s1, bo, hkd, fun H2 l s2 ⟨ds, hd, hdl, htab⟩ => ?_⟩
    obtain ⟨d0, hd0⟩ : ∃ d0, ds[0]? = some d0 := ⟨ds[0]'(by omega), List.getElem?_eq_getElem (by omega)⟩
    obtain ⟨kvs, k1, k2⟩ := htab 0 d0 hd0
    refine ⟨l, _, 0, .ref d0, rfl, rfl, SqL.of hd, atI_nat (j := 0) (by rw [List.getElem?_map, hd0]; rfl), d0, rfl, .inr ⟨_, .inl k1⟩, .ref bl, rfl, _, DGet.t (k := kI b) k1 (by rw [kI_V]; exact (hB.same s1).same s2), ?_⟩
    have hm : b ∈ cellsB b := (cells_mem bo.nn (Nat.le_refl _) b).mpr (by rw [List.take_length]; exact Bel.self bo.nn)
    rw [k2.get (.inl hm)]
    exact q H2 (s1.trans s2)
end
end HL

set_option pp.maxSteps 3000
namespace HL
open PySem PySem.Spec PyProof.Rows L2
open C8 (pss_cut)
/-! ### in two goods: filled within nine times -/
abbrev pX (r : List Int) : Int := r.getD 0 0
abbrev pY (r : List Int) : Int := r.getD 1 0
def cr (u v : List Int) : Int := pX u * pY v - pY u * pX v
structure NN (u : List Int) : Prop where
  x : 0 ≤ pX u
  y : 0 ≤ pY u
  nz : 0 < pX u ∨ 0 < pY u
theorem pos_of_mul {a b : Int} (ha : 0 < a) (h : 0 ≤ b * a) : 0 ≤ b := by
  by_cases c : 0 ≤ b
  · exact c
  · have := Int.mul_neg_of_neg_of_pos (show b < 0 by omega) ha
    omega
theorem cr_trans {s : Int} {z u x : List Int} (hz : NN z) (hu : NN u) (hx : NN x) (h1 : 0 ≤ s * cr z u) (h2 : 0 ≤ s * cr u x) : 0 ≤ s * cr z x := by
  have ex : s * cr z x * pX u = s * cr u x * pX z + s * cr z u * pX x := by unfold cr; grind
  have ey : s * cr z x * pY u = s * cr u x * pY z + s * cr z u * pY x := by unfold cr; grind
  rcases hu.nz with c | c
  · refine pos_of_mul c ?_
    rw [ex]
    have := Int.mul_nonneg h2 hz.x
    have := Int.mul_nonneg h1 hx.x
    omega
  · refine pos_of_mul c ?_
    rw [ey]
    have := Int.mul_nonneg h2 hz.y
    have := Int.mul_nonneg h1 hx.y
    omega
theorem cr_self (u : List Int) : cr u u = 0 := by unfold cr; grind
theorem cr_flip (u v : List Int) : cr u v = - cr v u := by unfold cr; grind
theorem extreme (s : Int) : ∀ {l : List (List Int)}, l ≠ [] → (∀ r ∈ l, NN r) → ∃ u ∈ l, ∀ x ∈ l, 0 ≤ s * cr x u
  | [], h, _ => absurd rfl h
  | [r], _, _ => ⟨r, List.mem_cons_self, fun x hx => by rw [List.mem_singleton.mp hx, cr_self]; simp⟩
  | r :: q :: t, _, hn => by
    obtain ⟨u, hu, h⟩ := extreme s (l := q :: t) (by simp) fun x hx => hn x (List.mem_cons_of_mem _ hx)
    by_cases c : 0 ≤ s * cr r u
    · refine ⟨u, List.mem_cons_of_mem _ hu, fun x hx => ?_⟩
      rcases List.mem_cons.mp hx with e | e
      · rw [e]; exact c
      · exact h x e
    · refine ⟨r, List.mem_cons_self, fun x hx => ?_⟩
      rcases List.mem_cons.mp hx with e | e
      · rw [e, cr_self]; simp
      · refine cr_trans (hn x (List.mem_cons_of_mem _ e)) (hn u (List.mem_cons_of_mem _ hu)) (hn r List.mem_cons_self) (h x e) ?_
        rw [cr_flip, Int.mul_neg]
        omega
theorem pack_zero {g : Nat} : ∀ {l : List (List Int)}, packI l (List.replicate l.length 0) g = 0
  | [] => by unfold packI; simp
  | r :: l => by
    rw [List.length_cons, List.replicate_succ, packI_cons, pack_zero]
    simp
theorem fill_one {u : List Int} {α : Int} (ha : 0 ≤ α) : ∀ {l : List (List Int)}, u ∈ l → ∃ c : List Int, c.length = l.length ∧ (∀ n ∈ c, 0 ≤ n) ∧ ∀ g, packI l c g = α * u.getD g 0
  | [], h => by cases h
  | r :: l, h => by
    by_cases e : u = r
    · refine ⟨α :: List.replicate l.length 0, by simp, fun n hn => ?_, fun g => ?_⟩
      · rcases List.mem_cons.mp hn with z | z
        · rw [z]; exact ha
        · rw [List.eq_of_mem_replicate z]; exact Int.le_refl _
      · rw [packI_cons, pack_zero, e]
        omega
    · have h' : u ∈ l := (List.mem_cons.mp h).resolve_left e
      obtain ⟨c, h1, h2, h3⟩ := fill_one ha h'
      refine ⟨0 :: c, by simp [h1], fun n hn => ?_, fun g => ?_⟩
      · rcases List.mem_cons.mp hn with z | z
        · rw [z]; exact Int.le_refl _
        · exact h2 n z
      · rw [packI_cons, h3]
        omega
theorem fill_add : ∀ {l : List (List Int)} {c d : List Int}, c.length = l.length → d.length = l.length → (∀ n ∈ c, 0 ≤ n) → (∀ n ∈ d, 0 ≤ n) → ∃ e : List Int, e.length = l.length ∧ (∀ n ∈ e, 0 ≤ n) ∧ ∀ g, packI l e g = packI l c g + packI l d g
  | [], [], [], _, _, _, _ => ⟨[], rfl, fun n hn => (by cases hn), fun g => (by unfold packI; simp)⟩
  | r :: l, a :: c, b :: d, h1, h2, h3, h4 => by
    obtain ⟨e, e1, e2, e3⟩ := fill_add (l := l) (c := c) (d := d) (by simpa using h1) (by simpa using h2) (fun n hn => h3 n (List.mem_cons_of_mem _ hn)) fun n hn => h4 n (List.mem_cons_of_mem _ hn)
    refine ⟨(a + b) :: e, by simp [e1], fun n hn => ?_, fun g => ?_⟩
    · rcases List.mem_cons.mp hn with z | z
      · have := h3 a List.mem_cons_self
        have := h4 b List.mem_cons_self
        omega
      · exact e2 n z
    · rw [packI_cons, packI_cons, packI_cons, e3, Int.add_mul]
      omega
  | [], _ :: _, _, h, _, _, _ => by simp at h
  | [], [], _ :: _, _, h, _, _ => by simp at h
  | _ :: _, [], _, h, _, _, _ => by simp at h
  | _ :: _, _ :: _, [], _, h, _, _ => by simp at h
theorem fill_two {l : List (List Int)} {u v : List Int} {α β : Int} (ha : 0 ≤ α) (hb : 0 ≤ β) (hu : u ∈ l) (hv : v ∈ l) : ∃ c : List Int, c.length = l.length ∧ (∀ n ∈ c, 0 ≤ n) ∧ ∀ g, packI l c g = α * u.getD g 0 + β * v.getD g 0 := by
  obtain ⟨c, c1, c2, c3⟩ := fill_one ha hu
  obtain ⟨d, d1, d2, d3⟩ := fill_one hb hv
  obtain ⟨e, e1, e2, e3⟩ := fill_add c1 d1 c2 d2
  exact ⟨e, e1, e2, fun g => by rw [e3, c3, d3]⟩
theorem far0 {r : List Int} {g : Nat} (h : r.length ≤ g) : r.getD g 0 = 0 := by
  rw [List.getD_eq_getElem?_getD, List.getElem?_eq_none h]
  rfl
/-- k times a bill that u and v span -/
theorem span_two {l : List (List Int)} {u v b : List Int} {k α β : Int} {g : Nat} (g2 : g ≤ 2) (hl : ∀ h ∈ l, h.length = g) (hb : b.length = g) (ha : 0 ≤ α) (h0 : 0 ≤ β) (hu : u ∈ l) (hv : v ∈ l) (ex : k * pX b = α * pX u + β * pX v) (ey : k * pY b = α * pY u + β * pY v) : ∃ c, Comes l c (b.map fun z => z * k) := by
  obtain ⟨c, c1, c2, c3⟩ := fill_two ha h0 hu hv
  refine ⟨c, (comes_iff fun h hh => by rw [List.length_map, hl h hh, hb]).mpr ⟨c1, c2, fun j => ?_⟩⟩
  have em : (b.map fun z => z * k).getD j 0 = k * b.getD j 0 := by
    rw [List.getD_eq_getElem?_getD, List.getD_eq_getElem?_getD, List.getElem?_map]
    cases b[j]? with
    | none => simp
    | some z => simp [Int.mul_comm]
  rw [c3, em]
  match j with
  | 0 => exact ex.symm
  | 1 => exact ey.symm
  | j + 2 =>
    rw [far0 (show u.length ≤ j + 2 by rw [hl u hu]; omega), far0 (show v.length ≤ j + 2 by rw [hl v hv]; omega), far0 (show b.length ≤ j + 2 by omega)]
    simp
theorem dot_two {r : List Int} {a c : Int} {g : Nat} (hr : r.length = g) (g2 : g ≤ 2) : dotI r ([a, c].take g) = pX r * a + pY r * c := by
  subst hr
  match r, g2 with
  | [], _ => simp [dotI]
  | [x], _ => simp [dotI]
  | [x, y], _ => simp [dotI]
  | _ :: _ :: _ :: _, h => simp at h
theorem within_nine {l : List (List Int)} {b : List Int} {g : Nat} (g2 : g ≤ 2) (hl : ∀ h ∈ l, h.length = g) (hne : l ≠ []) (hn : ∀ r ∈ l, NN r) (h3 : ∀ r ∈ l, pX r ≤ 3 ∧ pY r ≤ 3) (hb : b.length = g) (bx : 0 ≤ pX b) (by_ : 0 ≤ pY b)
    (hp : ∀ p : List Int, p.length = g → (∀ r ∈ l, 0 ≤ dotI r p) → 0 ≤ dotI b p) : ∃ k : Int, 1 ≤ k ∧ k ≤ 9 ∧ ∃ c, Comes l c (b.map fun z => z * k) := by
  by_cases par : ∃ u ∈ l, cr u b = 0
  · obtain ⟨u, hu, e⟩ := par
    have hb3 := h3 u hu
    rcases (hn u hu).nz with c | c
    · exact ⟨pX u, by omega, by omega, span_two g2 hl hb bx (Int.le_refl 0) hu hu (by grind) (by unfold cr at e; grind)⟩
    · exact ⟨pY u, by omega, by omega, span_two g2 hl hb by_ (Int.le_refl 0) hu hu (by unfold cr at e; grind) (by grind)⟩
  · have npar : ∀ u ∈ l, cr u b ≠ 0 := fun u hu e => par ⟨u, hu, e⟩
    have tl : ∀ a c : Int, ([a, c].take g).length = g := fun a c => by
      rw [List.length_take]
      show min g 2 = g
      omega
    by_cases up : ∃ u ∈ l, 0 < cr u b
    · by_cases dn : ∃ v ∈ l, cr v b < 0
      · obtain ⟨u, hu, pu⟩ := up
        obtain ⟨v, hv, pv⟩ := dn
        have nu := hn u hu
        have nv := hn v hv
        have ex : cr u v * pX b = (- cr v b) * pX u + cr u b * pX v := by unfold cr; grind
        have ey : cr u v * pY b = (- cr v b) * pY u + cr u b * pY v := by unfold cr; grind
        have k1 : 1 ≤ cr u v := by
          by_cases z : 1 ≤ cr u v
          · exact z
          · exfalso
            have m1 : cr u v * pX b ≤ 0 := Int.mul_nonpos_of_nonpos_of_nonneg (by omega) bx
            have m2 : cr u v * pY b ≤ 0 := Int.mul_nonpos_of_nonpos_of_nonneg (by omega) by_
            have a1 := Int.mul_nonneg (show 0 ≤ - cr v b by omega) nu.x
            have a2 := Int.mul_nonneg (show 0 ≤ - cr v b by omega) nu.y
            have a3 := Int.mul_nonneg (show 0 ≤ cr u b by omega) nv.x
            have a4 := Int.mul_nonneg (show 0 ≤ cr u b by omega) nv.y
            rcases nu.nz with c | c
            · have := Int.mul_pos (show 0 < - cr v b by omega) c
              omega
            · have := Int.mul_pos (show 0 < - cr v b by omega) c
              omega
        have k9 : cr u v ≤ 9 := by
          have b1 := h3 u hu
          have b2 := h3 v hv
          have m1 : pX u * pY v ≤ 3 * 3 := Int.mul_le_mul b1.1 b2.2 nv.y (by decide)
          have m2 := Int.mul_nonneg nu.y nv.x
          unfold cr
          omega
        exact ⟨cr u v, k1, k9, span_two g2 hl hb (show 0 ≤ - cr v b by omega) (show 0 ≤ cr u b by omega) hu hv ex ey⟩
      · exfalso
        obtain ⟨u, hu, h⟩ := extreme 1 hne hn
        have pu : 0 < cr u b := by
          have n1 := npar u hu
          have n2 : ¬ cr u b < 0 := fun z => dn ⟨u, hu, z⟩
          omega
        have := hp ([pY u, -pX u].take g) (tl _ _) fun r hr => by
          rw [dot_two (hl r hr) g2]
          have := h r hr
          unfold cr at this
          grind
        rw [dot_two hb g2] at this
        unfold cr at pu
        grind
    · exfalso
      obtain ⟨u, hu, h⟩ := extreme (-1) hne hn
      have pu : cr u b < 0 := by
        have n1 := npar u hu
        have n2 : ¬ 0 < cr u b := fun z => up ⟨u, hu, z⟩
        omega
      have := hp ([-pY u, pX u].take g) (tl _ _) fun r hr => by
        rw [dot_two (hl r hr) g2]
        have := h r hr
        unfold cr at this
        grind
      rw [dot_two hb g2] at this
      unfold cr at pu
      grind
end HL

set_option pp.maxSteps 600
set_option pp.deepTerms false
namespace HL
open PySem PySem.Spec PyProof.Rows L2
open C8 (pss_cut)
open LamX (CodeO Tabs TabS TabB ExtN tLam LamS lamS_by lamCx lamEnv codeO_ne)
abbrev NL : List Str := ["_law_script", "_law_feed_here", "_law_turn", "_law_lot_here", "_law_bill", "_law_many", "_law_found", "_law_some", "_law_paper", "_law_over", "_law_good", "_law_k"]
theorem scLaw : FnScope NL ["_law_script"] (defScope sLaw) := ⟨rfl, rfl, rfl, by decide +kernel, rfl, by decide +kernel, by decide +kernel⟩
theorem good_flaw {g m : Int} {ll : List (List Int)} (g1 : 1 ≤ g) (g3 : g ≤ 3) (m6 : m ≤ 6) (h : GoodLot g m 5 ll) : flaw ll = none := by
  obtain ⟨h1, h2, h3⟩ := h
  have hw : width ll = g.toNat := by
    cases ll with
    | nil => simp at h1
    | cons r rs => exact (h3 r List.mem_cons_self).1
  unfold flaw
  rw [if_pos ⟨h1, h2, by omega, by omega⟩]
  exact flawIn_none fun j r hj hjr => by
    obtain ⟨e1, e2, e3⟩ := h3 r (List.mem_of_getElem? hjr)
    refine okRow_iff.mpr ⟨by rw [e1, hw], fun n hn => ?_, e3⟩
    have := e2 n hn
    omega
theorem dp_ints {K : PySem.W.Frag} {H : Hp} : ∀ ns : List Int, DpAll K H (ns.map V.int) (ns.map PyData.int)
  | [] => .nil
  | n :: ns => .cons (.int n) (dp_ints ns)
theorem int_at {xs : List Int} {i : Nat} {x : V} (h : (xs.map V.int)[i]? = some x) : ∃ n, xs[i]? = some n ∧ x = V.int n := by
  rw [List.getElem?_map] at h
  cases e : xs[i]? with
  | none => rw [e] at h; cases h
  | some c => rw [e] at h; exact ⟨c, rfl, (Option.some.inj h).symm⟩
theorem drawnP {H H' H2 : Hp} {a c D : Addr} {ns : List Int} {d : Int} {Z : Int → Prop} (nD : H D = none) (nDf : D ≠ a) (nDc : D ≠ c) (kp : Kp a H H') (hD : H' D = some (.lst (ns.map V.int))) (k2 : Kp a H' H2) (F2 : FeedAt c H2 a) (hz : ns.length ≤ 900) (hb : ∀ n ∈ ns, Z n) (hd : Z d) :
    ∃ acc, H2 D = some (.lst acc) ∧ acc.length < sizeLine ∧ Kp a H (upd H2 D (.lst (acc ++ [.int d]))) ∧ FeedAt c (upd H2 D (.lst (acc ++ [.int d]))) a ∧
      ∃ ms : List Int, upd H2 D (.lst (acc ++ [.int d])) D = some (.lst (ms.map V.int)) ∧ ms.length = ns.length + 1 ∧ ∀ n ∈ ms, Z n := by
  have hD2 := k2 _ _ nDf hD
  refine ⟨_, hD2, ?_, (kp.trans k2).late nD, F2.put nDf nDc, ns ++ [d], ?_, ?_, ?_⟩
  · rw [List.length_map]
    exact small1000 (by omega)
  · rw [upd_same, List.map_append]
    rfl
  · rw [List.length_append]
    rfl
  · intro n hn
    rcases List.mem_append.mp hn with h | h
    · exact hb n h
    · rw [List.mem_singleton.mp h]
      exact hd

/-! ### bills many times over -/
theorem dot_times {b p : List Int} {k : Int} : dotI (b.map fun z => z * k) p = k * dotI b p := by
  rw [← dot_mul]
  congr 1
  exact List.map_congr_left fun z _ => Int.mul_comm z k
theorem prB_times {ll : List (List Int)} {b r : List Int} {m : Int} (hm : 1 ≤ m) : prB ll (b.map fun z => z * m) r = prB ll b r := by
  unfold prB
  rw [List.length_map, dot_times]
  have e : decide (m * dotI b r < 0) = decide (dotI b r < 0) := by
    by_cases c : dotI b r < 0
    · rw [decide_eq_true c, decide_eq_true (Int.mul_neg_of_pos_of_neg (by omega) c)]
    · rw [decide_eq_false c, decide_eq_false fun z => by
        have := Int.mul_nonneg (show 0 ≤ m by omega) (show 0 ≤ dotI b r by omega)
        omega]
  rw [e]
theorem rest_over {ll : List (List Int)} {b x : List Int} {y t : Int} (h : RestOk ll b x y) : RestOk ll (b.map fun z => z * (1 + y * t)) x y := by
  refine ⟨h.two, by rw [List.length_map]; exact h.len, fun z => ?_, h.lot⟩
  rw [dot_times] at z
  have e : (1 + y * t) * dotI b x = dotI b x + y * (t * dotI b x) := by grind
  rw [e] at z
  exact h.bill ((Int.dvd_add_left (Int.dvd_mul_right y _)).mp z)
theorem rest_by {ll : List (List Int)} {b x : List Int} {y : Int} : reB ll (b.map fun z => z * y) x y = false := by
  cases e : reB ll (b.map fun z => z * y) x y with
  | false => rfl
  | true =>
    have := (reB_iff.mp e).bill
    rw [dot_times] at this
    exact absurd (Int.dvd_mul_right y _) this
theorem box_few {b : List Int} (hl : b.length ≤ 2) (hb : ∀ n ∈ b, 0 ≤ n ∧ n ≤ 36) : boxI b ≤ 4000 := by
  match b, hl with
  | [], _ => decide
  | [x], _ =>
    have := hb x (by simp)
    show 1 * (x + 1) ≤ 4000
    omega
  | [x, y], _ =>
    have h1 := hb x (by simp)
    have h2 := hb y (by simp)
    show 1 * (x + 1) * (y + 1) ≤ 4000
    have : (1 * (x + 1)) * (y + 1) ≤ 37 * 37 := Int.mul_le_mul (by omega) (by omega) (by omega) (by decide)
    omega
  | _ :: _ :: _ :: _, h => simp at h
theorem times_bd {b : List Int} {k : Int} {M : Int} (k0 : 0 ≤ k) (hb : ∀ n ∈ b, 0 ≤ n ∧ n ≤ 4) (h : 4 * k ≤ M) : ∀ n ∈ b.map (fun z => z * k), 0 ≤ n ∧ n ≤ M := fun n hn => by
  obtain ⟨z, hz, rfl⟩ := List.mem_map.mp hn
  have := hb z hz
  have h1 := Int.mul_nonneg this.1 k0
  have h2 : z * k ≤ 4 * k := Int.mul_le_mul_of_nonneg_right this.2 k0
  omega
theorem cnt_yes {ll : List (List Int)} {b c : List Int} {g : Nat} (hk : ∀ h ∈ ll, Kd g h) (hb : b.length = g) (h : Comes ll c b) : 0 < cnt ll b := by
  have := (fils_mem hk hb).mpr h
  rw [← fils_len]
  exact List.length_pos_of_mem this
/-- what prices found -/
def FoundAt (H : Hp) (v : V) (ll : List (List Int)) (b : List Int) : Prop := (v = .non ∧ ∀ r ∈ priceL ll, prB ll b r = false) ∨ ∃ a r, v = .ref a ∧ IntsAt H a r ∧ r ∈ priceL ll ∧ prB ll b r = true
theorem FoundAt.mono {H H' : Hp} {v : V} {ll : List (List Int)} {b : List Int} (h : FoundAt H v ll b) (k : ∀ a xs, H a = some (.tup xs) → H' a = some (.tup xs)) : FoundAt H' v ll b := by
  rcases h with h | ⟨a, r, h1, h2, h3⟩
  · exact .inl h
  · exact .inr ⟨a, r, h1, k _ _ h2, h3⟩
/-- all that the law takes from the module -/
structure Txt (P : Program) (w : World) (K : PySem.W.Frag) (mg : Str → Option Value) (base : Heap) (CB Pw : Addr) : Prop where
  B : Bl mg
  feed : Cal P w K mg base CX0 1 "_law_feed" ["_law_script"] (spFeed K)
  draw : Cal P w K mg base CX0 1 "_law_draw" ["_law_feed_here", "_law_many"] spDraw
  great : Cal P w K mg base CX0 3 "_law_great" ["_law_feed_here"] spGreat
  lot : Cal P w K mg base CX0 3 "_law_lot" ["_law_feed_here", "_law_goods", "_law_kinds", "_law_most"] spLot
  ti : Cal P w K mg base CX0 1 "_law_times" ["_law_row", "_law_many"] spTimes
  pr : Cal P w K mg base (L2.CX P w) 5 "prices" ["lot", "bill"] (spPrices CB)
  ph : Cal P w K mg base (L2.CX P w) 5 "prices_hold" ["lot", "bill", "paper"] spPrHold
  re : Cal P w K mg base (L2.CX P w) 7 "rests" ["lot", "bill"] (spRests CB [(Pw, qW)])
  rh : Cal P w K mg base (L2.CX P w) 5 "rests_hold" ["lot", "bill", "paper"] (spReHold CB)
  hm : Cal P w K mg base CX0 6 "how_many" ["lot", "bill"] spHowMany
/-- the law's turn: what it knows of the heap -/
structure S7 (cf fe : Addr) (T : List (Addr × Str)) (p : Addr) (as : List Addr) (ll : List (List Int)) (H : Hp) : Prop where
  F : FeedAt cf H fe
  T : Tabs T H
  R : RowsAt H p as ll
/-- with the bill -/
structure S8 (cf fe : Addr) (T : List (Addr × Str)) (p bl : Addr) (as : List Addr) (ll : List (List Int)) (b : List Int) (H : Hp) : Prop where
  S : S7 cf fe T p as ll H
  B : IntsAt H bl b
section
variable {cf fe p bl : Addr} {T : List (Addr × Str)} {as : List Addr} {ll : List (List Int)} {b : List Int} {H H' : Hp}
theorem S7.same (x : S7 cf fe T p as ll H) (s : Same H H') : S7 cf fe T p as ll H' := ⟨x.F.same s, x.T.ext s, x.R.same s⟩
theorem S7.ext (x : S7 cf fe T p as ll H) (s : ExtN H H') (t : Tabs T H') : S7 cf fe T p as ll H' := ⟨x.F.ext s, t, x.R.ext s⟩
theorem S7.kp (x : S7 cf fe T p as ll H) (k : Kp fe H H') (F : FeedAt cf H' fe) : S7 cf fe T p as ll H' := ⟨F, tabs_kp x.T x.F k, x.R.kp x.F k⟩
theorem S8.same (x : S8 cf fe T p bl as ll b H) (s : Same H H') : S8 cf fe T p bl as ll b H' := ⟨x.S.same s, x.B.same s⟩
theorem S8.ext (x : S8 cf fe T p bl as ll b H) (s : ExtN H H') (t : Tabs T H') : S8 cf fe T p bl as ll b H' := ⟨x.S.ext s t, x.B.ext s⟩
theorem S8.kp (x : S8 cf fe T p bl as ll b H) (k : Kp fe H H') (F : FeedAt cf H' fe) : S8 cf fe T p bl as ll b H' := ⟨x.S.kp k F, x.B.kp x.S.F k⟩
end
section
variable {P : Program} {w : World} {K : PySem.W.Frag} {mg : Str → Option Value} {base : Heap}
def spLaw (K : PySem.W.Frag) (Pw : Addr) : Sp := fun vs H Q _ => ∃ (a : Addr) (ns : List Int), vs = [.ref a] ∧ SqL K H a (ns.map V.int) ∧ ns.length ≤ 63 ∧ Tabs [(Pw, qW)] H ∧ ∀ H', Q (.bl true) H'
theorem ok_law {f CB Pw : Addr} {fd : FuncData} (F : Fun K "law" "law" sLaw f fd) (T : Txt P w K mg base CB Pw) : FnOk P w K mg base CX0 9 f fd ["_law_script"] (spLaw K Pw) := by
  have B := T.B
  obtain ⟨fF, fdF, GF, gF, kF, bF⟩ := T.feed.ex
  obtain ⟨fD, fdD, GD, gD, kD, bD⟩ := T.draw.ex
  obtain ⟨fGr, fdGr, GGr, gGr, kGr, bGr⟩ := T.great.ex
  obtain ⟨fLo, fdLo, GLo, gLo, kLo, bLo⟩ := T.lot.ex
  obtain ⟨fTi, fdTi, GTi, gTi, kTi, bTi⟩ := T.ti.ex
  obtain ⟨fPr, fdPr, GPr, gPr, kPr, bPr⟩ := T.pr.ex
  obtain ⟨fPh, fdPh, GPh, gPh, kPh, bPh⟩ := T.ph.ex
  obtain ⟨fRe, fdRe, GRe, gRe, kRe, bRe⟩ := T.re.ex
  obtain ⟨fRh, fdRh, GRh, gRh, kRh, bRh⟩ := T.rh.ex
  obtain ⟨fHm, fdHm, GHm, gHm, kHm, bHm⟩ := T.hm.ex
  refine F.ok scLaw (fun vs H Q E h => ?_) fun cdv A outer s H vs Q E hr h => ?_
  · obtain ⟨a, ns, rfl, _⟩ := h
    rfl
  · obtain ⟨a, ns, rfl, hS, hlen, hT, q⟩ := h
    refine ⟨_, (pss_cons (ps_set (i := 1) scLaw.nd rfl (.inr rfl) (pe_call GF (hr.mono (by decide)) (by rfl) gF kF bF .nil pass0 (pa_cons (pv 0) pa_nil)))
      (pss_cons (ps_for PassesOwn.never rfl (pi_range1 (by rfl) B.range (pa_cons pe_int pa_nil)) (pg_name (i := 2) scLaw.nd rfl (.inl rfl))
      (pss_cons (ps_set (i := 3) scLaw.nd rfl (.inr rfl) (pe_call GLo (hr.mono (by decide)) (by rfl) gLo kLo bLo .nil pass0 (pa_cons (pv 1) (pa_cons (pe_op op_add pe_int (pe_call GD (hr.mono (by decide)) (by rfl) gD kD bD .nil pass0 (pa_cons (pv 1) (pa_cons pe_int pa_nil)))) (pa_cons pe_int (pa_cons pe_int pa_nil))))))
      (pss_cut (ps_set (i := 4) scLaw.nd rfl (.inr rfl) (pe_callTy call_tuple_of (by rfl) B.tuple (by decide +kernel) (pa_cons (pe_lc (own := [("_law_good", 10)]) (g := gName 10) (tt := tYes) rfl scLaw.nd (pi_tup (pe_ix ix_tup (pv 3) pe_int (fun _ _ => rfl)))
        (blkOk_by (own := [("_law_good", 10)]) (N := NL) (sc := defScope sLaw) (by decide +kernel)) (fun _ _ _ _ _ => pg_name (i := 10) scLaw.nd rfl (Or.inl rfl)) (fun _ _ _ _ _ => pts_nil)
        (fun _ _ _ _ _ => (pe_call GD (hr.mono (by decide)) (by rfl) gD kD bD .nil pass0 (pa_cons (pv 1) (pa_cons pe_int pa_nil))))) pa_nil)))
      (pss_cut (ps_set (i := 5) scLaw.nd rfl (.inl rfl) (pe_op op_add pe_int (pe_op op_mod (pe_call GGr (hr.mono (by decide)) (by rfl) gGr kGr bGr .nil pass0 (pa_cons (pv 1) pa_nil)) (pe_op op_pow pe_int pe_int))))
      (pss_cut (ps_set (i := 6) scLaw.nd rfl (.inl rfl) (pe_call GPr (hr.mono (by decide)) (by rfl) gPr kPr bPr .nil passL (pa_cons (pv 3) (pa_cons (pv 4) pa_nil))))
      (pss_cut (ps_if (pt_cmpR op_ne (pe_cmpR op_isN (pe_call GPr (hr.mono (by decide)) (by rfl) gPr kPr bPr .nil passL (pa_cons (pv 3) (pa_cons (pe_call GTi (hr.mono (by decide)) (by rfl) gTi kTi bTi .nil pass0 (pa_cons (pv 4) (pa_cons (pv 5) pa_nil))) pa_nil))) pe_non (nomark _)) (pe_cmpR op_isN (pv 6) pe_non (nomark _)) (nomark _)) pss_never pss_nil)
      (pss_cut (ps_if (PW.pt (pw_and (pt_cmpR op_notN (pv 6) pe_non (nomark _)) (pw_and1 (pt_not (pt_val (pe_call GPh (hr.mono (by decide)) (by rfl) gPh kPh bPh .nil passL (pa_cons (pv 3) (pa_cons (pe_call GTi (hr.mono (by decide)) (by rfl) gTi kTi bTi .nil pass0 (pa_cons (pv 4) (pa_cons (pv 5) pa_nil))) (pa_cons (pv 6) pa_nil))))))))) pss_never pss_nil)
      (pss_cut (ps_if (pt_cmpR op_isN (pv 6) pe_non (nomark _)) (pss_cons (ps_setLc (i := 7) (own := [("_law_k", 11)]) (g := gName 11) rfl scLaw.nd rfl rfl (sw_true rfl rfl rfl (by decide +kernel)) (pi_range2 (by rfl) B.range (pa_cons pe_int (pa_cons pe_int pa_nil)))
        (blkOk_by (own := [("_law_k", 11)]) (N := NL) (sc := defScope sLaw) (by decide +kernel)) (fun _ _ _ _ _ => pg_name (i := 11) scLaw.nd rfl (Or.inl rfl)) (fun _ _ _ _ _ => pts_one (pt_cmpR op_gt (pe_call GHm (hr.mono (by decide)) (by rfl) gHm kHm bHm .nil pass0 (pa_cons (pv 3) (pa_cons (pe_call GTi (hr.mono (by decide)) (by rfl) gTi kTi bTi .nil pass0 (pa_cons (pv 4) (pa_cons (pv 11) pa_nil))) pa_nil))) pe_int (nomark _)))
        (fun _ _ _ _ _ => (pv 11)))
      (pss_one (ps_if (pt_cmpR (op_eqD hr.units) (pv 7) (pe_lst pa_nil) (nomark _)) pss_never pss_nil))) pss_nil)
      (pss_cut (ps_set (i := 8) scLaw.nd rfl (.inl rfl) (pe_call GRe (hr.mono (by decide)) (by rfl) gRe kRe bRe .nil passL (pa_cons (pv 3) (pa_cons (pv 4) pa_nil))))
      (pss_one (ps_if (PW.pt (pw_and (pt_cmpR op_notN (pv 8) pe_non (nomark _)) (pw_and1 (pt_cmpR op_lt (pe_ix ix_tup (pv 8) pe_int (fun _ _ => rfl)) (pe_op op_pow pe_int pe_int) (nomark _))))) (pss_cut (ps_set (i := 9) scLaw.nd rfl (.inl rfl) (pe_op op_add pe_int (pe_op op_mul (pe_ix ix_tup (pv 8) pe_int (fun _ _ => rfl)) (pe_op op_mod (pe_call GGr (hr.mono (by decide)) (by rfl) gGr kGr bGr .nil pass0 (pa_cons (pv 1) pa_nil)) pe_int))))
      (pss_cut (ps_if (pt_not (pt_val (pe_call GRh (hr.mono (by decide)) (by rfl) gRh kRh bRh .nil passL (pa_cons (pv 3) (pa_cons (pe_call GTi (hr.mono (by decide)) (by rfl) gTi kTi bTi .nil pass0 (pa_cons (pv 4) (pa_cons (pv 9) pa_nil))) (pa_cons (pv 8) pa_nil)))))) pss_never pss_nil)
      (pss_one (ps_if (pt_val (pe_call GRh (hr.mono (by decide)) (by rfl) gRh kRh bRh .nil passL (pa_cons (pv 3) (pa_cons (pe_call GTi (hr.mono (by decide)) (by rfl) gTi kTi bTi .nil pass0 (pa_cons (pv 4) (pa_cons (pe_ix ix_tup (pv 8) pe_int (fun _ _ => rfl)) pa_nil))) (pa_cons (pv 8) pa_nil))))) pss_never pss_nil)))) pss_nil)))))))))))
      (pss_one (ps_ret pe_bl)))), ?_⟩
    refine ⟨.ref a, rfl, a, ns, rfl, hS, hlen, fun H1 fe cf s1 nf F1 => ?_⟩
    refine ⟨3, rfl, by decide, by decide, ?_⟩
    refine for_range (lo := 0) (n := 3) (fun i σ' H' => (∃ y2 y3 y4 y5 y6 y7 y8 y9, σ' = [some (.ref a), some (.ref fe), y2, y3, y4, y5, y6, y7, y8, y9, none, none]) ∧ FeedAt cf H' fe ∧ Tabs [(Pw, qW)] H')
      ⟨⟨none, none, none, none, none, none, none, none, rfl⟩, F1, hT.ext s1⟩ (fun i σ H2 hi hI => ?_) (fun σ H2 _ => q H2)
    obtain ⟨⟨y2, y3, y4, y5, y6, y7, y8, y9, rfl⟩, F2, T2⟩ := hI
    generalize eT : [(Pw, qW)] = TT at *
    -- the lot
    refine ⟨.ref fe, rfl, .ref fe, rfl, fe, cf, 2, rfl, by decide, by decide, F2, fun d H2' d0 d1 k2 F2' => ?_⟩
    refine ⟨1, d, rfl, rfl, ?_⟩
    refine ⟨fe, cf, 1 + d, 4, 3, rfl, F2', by omega, by omega, by decide, by decide, by decide, by decide, fun H3 p ll k3 F3 _ ⟨as, hp, hR⟩ gl => ?_⟩
    have X3 : S7 cf fe TT p as ll H3 := ⟨F3, tabs_kp (tabs_kp T2 F2 k2) F2' k3, ⟨hp, hR⟩⟩
    have ef := good_flaw (g := 1 + d) (m := 3) (by omega) (by omega) (by decide) ⟨gl.1, Nat.le_trans gl.2.1 (by decide), gl.2.2⟩
    have hok := flaw_ok ef
    have hrw := flaw_rows ef
    have hlen0 := hR.len
    have hkd := flaw_kd ef
    have hLl : Len (width ll) ll := fun r hr => (hrw r hr).1
    have hw2 : width ll ≤ 2 := by
      obtain ⟨r, hr⟩ : ∃ r, r ∈ ll := List.exists_mem_of_length_pos hok.1
      rw [← (hrw r hr).1, (gl.2.2 r hr).1]
      omega
    have h3 : ∀ r ∈ ll, ∀ n ∈ r, 0 ≤ n ∧ n ≤ 3 := fun r hr => (gl.2.2 r hr).2.1
    clear k2 k3 d0 d1 gl F2 F2' T2 F3 hp hR
    -- the bill
    refine ⟨fun σ' H' => ∃ (bl : Addr) (b : List Int), (∃ y2 y5 y6 y7 y8 y9, σ' = [some (.ref a), some (.ref fe), y2, some (.ref p), some (.ref bl), y5, y6, y7, y8, y9, none, none]) ∧ S8 cf fe TT p bl as ll b H' ∧ b.length = width ll ∧ ∀ n ∈ b, 0 ≤ n ∧ n ≤ 4, ?_, ?_⟩
    · obtain ⟨a0, ha0, I0, hw0⟩ := X3.R.2.head hok.1
      have I0 : IntsAt H3 a0 (ll.headD []) := I0
      have at0 : atI (as.map V.ref) 0 = some (.ref a0) := atI_nat (j := 0) (by rw [List.getElem?_map, ha0]; rfl)
      refine ⟨.ref p, rfl, p, _, 0, .ref a0, rfl, rfl, SqT.of X3.R.1, at0, a0, rfl, ⟨_, SqT.of I0⟩, fun D nD => ?_⟩
      have nDf := X3.F.ne nD
      have nDc := X3.F.neC nD
      refine lc_tup (K := K) (a := a0) (xs := (ll.headD []).map V.int) (fun i H' => Kp fe H3 H' ∧ FeedAt cf H' fe ∧ ∃ ns : List Int, H' D = some (.lst (ns.map V.int)) ∧ ns.length = i ∧ ∀ n ∈ ns, 0 ≤ n ∧ n ≤ 4) ⟨Kp.new nD, X3.F.new nD, [], upd_same, rfl, fun n hn => by cases hn⟩ (fun i H' _ hP => SqT.of (I0.kp X3.F hP.1)) (fun i x H' hx ⟨kp, F', ns, hD, hl, hb⟩ => ?_) (fun H' ⟨kp, F', ns, hD, hl, hb⟩ => ?_)
      · have hi : i < width ll := by
          have := (List.getElem?_eq_some_iff.mp hx).1
          rw [List.length_map, hw0] at this
          exact this
        refine ⟨rfl, yes (iteT ?_)⟩
        refine ⟨.ref fe, rfl, fe, cf, 5, rfl, by decide, by decide, F', fun d H8 d0 d1 k8 F8 => ?_⟩
        obtain ⟨acc, e1, e2, e3, e4, ms, e5, e6, e7⟩ := drawnP (d := d) (Z := fun n => 0 ≤ n ∧ n ≤ 4) nD nDf nDc kp hD k8 F8 (by omega) hb ⟨d0, by omega⟩
        exact ⟨acc, e1, e2, e3, e4, ms, e5, by rw [e6, hl], e7⟩
      · rw [List.length_map, hw0] at hl
        refine ⟨D, _, rfl, .inl ⟨SqL.of hD, fun t nt => ?_⟩⟩
        exact ⟨t, ns, ⟨_, _, _, _, _, _, rfl⟩, ⟨(X3.kp kp F').same (same_new nt), upd_same⟩, hl, hb⟩
    clear X3
    rintro σ' H4 ⟨bl, b, ⟨y2, y5, y6, y7, y8, y9, rfl⟩, X4, hbl, hb4⟩
    have hb0 : ∀ n ∈ b, 0 ≤ n ∧ n < G30 := fun n hn => by
      have := hb4 n hn
      refine ⟨this.1, ?_⟩
      show n < 1000000000000000000000000000000
      omega
    have ewb : wrong (width ll : Nat) b = none := wrong_good (by rw [hbl]) hb0
    have hb1000 : ∀ n ∈ b, -1000 ≤ n ∧ n ≤ 1000 := fun n hn => by have := hb4 n hn; omega
    have tmG : ∀ k : Int, 0 ≤ k → k ≤ 1000000000000000000000000 → ∀ n ∈ b.map (fun z => z * k), 0 ≤ n ∧ n < G30 := fun k k0 k1 n hn => by
      have := times_bd (M := 4000000000000000000000000) k0 hb4 (by omega) n hn
      refine ⟨this.1, ?_⟩
      show n < 1000000000000000000000000000000
      omega
    have tmW : ∀ k : Int, 0 ≤ k → k ≤ 1000000000000000000000000 → wrong (width ll : Nat) (b.map fun z => z * k) = none := fun k k0 k1 => wrong_good (by rw [List.length_map, hbl]) (tmG k k0 k1)
    have tml : ∀ k : Int, (b.map fun z => z * k).length = width ll := fun k => by rw [List.length_map, hbl]
    -- how many times
    refine ⟨fun σ' H' => ∃ (m : Int), (∃ y2 y6 y7 y8 y9, σ' = [some (.ref a), some (.ref fe), y2, some (.ref p), some (.ref bl), some (.int m), y6, y7, y8, y9, none, none]) ∧ S8 cf fe TT p bl as ll b H' ∧ 1 ≤ m ∧ m ≤ 100000000000000000000, ?_, ?_⟩
    · refine ⟨.ref fe, rfl, fe, cf, rfl, X4.S.F, fun d H5 d0 d1 k5 F5 => ?_⟩
      have e20 : (10 : Int) ^ (20 : Int).toNat = 100000000000000000000 := by decide
      refine ⟨10, 20, rfl, rfl, ⟨by decide, by decide, by decide⟩, d, _, rfl, rfl, (show (0 : Int) < 10 ^ (20 : Int).toNat by decide), 1, _, rfl, rfl, ?_⟩
      rw [e20]
      have h1 := Int.emod_nonneg d (show (100000000000000000000 : Int) ≠ 0 by decide)
      have h2 := Int.emod_lt_of_pos d (show (0 : Int) < 100000000000000000000 by decide)
      exact ⟨_, ⟨_, _, _, _, _, rfl⟩, X4.kp k5 F5, by omega, by omega⟩
    clear X4
    rintro σ' H5 ⟨m, ⟨y2, y6, y7, y8, y9, rfl⟩, X5, m1, m2⟩
    refine ⟨fun σ' H' => ∃ (v : V), (∃ y2 y7 y8 y9, σ' = [some (.ref a), some (.ref fe), y2, some (.ref p), some (.ref bl), some (.int m), some (v), y7, y8, y9, none, none]) ∧ S8 cf fe TT p bl as ll b H' ∧ FoundAt H' v ll b, ?_, ?_⟩
    · refine ⟨.ref p, rfl, .ref bl, rfl, p, bl, as, ll, b, rfl, X5.S.R, ef, X5.B, by omega, fun _ => ⟨fun H7 v r s7 hv hr hp => ?_, fun hno H7 s7 => ?_⟩, fun z => absurd ewb z⟩
      · exact ⟨_, ⟨_, _, _, _, rfl⟩, X5.same s7, .inr ⟨v, r, rfl, hv, hr, hp⟩⟩
      · exact ⟨_, ⟨_, _, _, _, rfl⟩, X5.same s7, .inl ⟨rfl, hno⟩⟩
    clear X5
    rintro σ' H5 ⟨v, ⟨y2, y7, y8, y9, rfl⟩, X5, Fd5⟩
    -- many times over
    refine ⟨fun σ' H' => (∃ y2 y7 y8 y9, σ' = [some (.ref a), some (.ref fe), y2, some (.ref p), some (.ref bl), some (.int m), some (v), y7, y8, y9, none, none]) ∧ S8 cf fe TT p bl as ll b H' ∧ FoundAt H' v ll b, ?_, ?_⟩
    · refine ⟨.ref p, rfl, .ref bl, rfl, .int m, rfl, bl, b, m, rfl, X5.B, by omega, hb1000, fun H6 t s6 ht => ?_⟩
      have X6 := X5.same s6
      have Fd6 := Fd5.mono fun _ _ e => s6 _ _ e
      refine ⟨p, t, as, ll, _, rfl, X6.S.R, ef, ht, by rw [tml]; omega, fun _ => ⟨fun H7 va r s7 hv hr hp => ?_, fun hno H7 s7 => ?_⟩, fun z => absurd (tmW m (by omega) (by omega)) z⟩
      · rw [prB_times m1] at hp
        have X7 := X6.same s7
        have Fd7 := Fd6.mono fun _ _ e => s7 _ _ e
        rcases Fd7 with ⟨rfl, hno⟩ | ⟨fa, fr, rfl, h1, h2, h3⟩
        · rw [hno r hr] at hp
          cases hp
        · exact ⟨rfl, .ref fa, rfl, rfl, rfl, _, rfl, iteF ⟨⟨_, _, _, _, rfl⟩, X7, .inr ⟨fa, fr, rfl, h1, h2, h3⟩⟩⟩
      · have X7 := X6.same s7
        have Fd7 := Fd6.mono fun _ _ e => s7 _ _ e
        rcases Fd7 with ⟨rfl, hno'⟩ | ⟨fa, fr, rfl, h1, h2, h3⟩
        · exact ⟨rfl, .non, rfl, rfl, rfl, _, rfl, iteF ⟨⟨_, _, _, _, rfl⟩, X7, .inl ⟨rfl, hno'⟩⟩⟩
        · have := hno fr h2
          rw [prB_times m1, h3] at this
          cases this
    clear X5 Fd5
    rintro σ' H5 ⟨⟨y2, y7, y8, y9, rfl⟩, X5, Fd5⟩
    refine ⟨fun σ' H' => (∃ y2 y5 y7 y8 y9, σ' = [some (.ref a), some (.ref fe), y2, some (.ref p), some (.ref bl), y5, some (v), y7, y8, y9, none, none]) ∧ S8 cf fe TT p bl as ll b H' ∧ FoundAt H' v ll b, ?_, ?_⟩
    · rcases Fd5 with ⟨rfl, hno⟩ | ⟨fa, fr, rfl, h1, h2, h3⟩
      · exact ⟨.non, rfl, rfl, _, rfl, iteF (iteF ⟨⟨_, _, _, _, _, rfl⟩, X5, .inl ⟨rfl, hno⟩⟩)⟩
      · refine ⟨.ref fa, rfl, rfl, _, rfl, iteT ?_⟩
        refine ⟨.ref p, rfl, .ref bl, rfl, .int m, rfl, bl, b, m, rfl, X5.B, by omega, hb1000, fun H6 t s6 ht => ?_⟩
        have X6 := X5.same s6
        obtain ⟨pz, pb⟩ := price_small ef fr h2
        refine ⟨.ref fa, rfl, p, t, fa, as, ll, _, fr, rfl, X6.S.R, ef, ht, tml m, tmG m (by omega) (by omega), h1.same s6, by omega, pb, fun H7 s7 => ?_⟩
        rw [prB_times m1, h3]
        exact ⟨_, rfl, iteF ⟨⟨_, _, _, _, _, rfl⟩, X6.same s7, .inr ⟨fa, fr, rfl, (h1.same s6).same s7, h2, h3⟩⟩⟩
    clear X5 Fd5
    rintro σ' H5 ⟨⟨y2, y5, y7, y8, y9, rfl⟩, X5, Fd5⟩
    -- filled within nine times
    refine ⟨fun σ' H' => (∃ y2 y5 y6 y7 y8 y9, σ' = [some (.ref a), some (.ref fe), y2, some (.ref p), some (.ref bl), y5, y6, y7, y8, y9, none, none]) ∧ S8 cf fe TT p bl as ll b H', ?_, ?_⟩
    · rcases Fd5 with ⟨rfl, hno⟩ | ⟨fa, fr, rfl, _⟩
      · refine ⟨.non, rfl, rfl, _, rfl, iteT ?_⟩
        have hpr : ∀ x : List Int, x.length = width ll → (∀ r ∈ ll, 0 ≤ dotI r x) → 0 ≤ dotI b x := fun x hx hr => by
          by_cases z : 0 ≤ dotI b x
          · exact z
          · obtain ⟨r, h1, h2⟩ := price_full (p := x) ef hbl (fun n hn => (hb4 n hn).1) (prB_iff.mpr ⟨by rw [hx, hbl], by omega, hr⟩)
            rw [hno r h1] at h2
            cases h2
        have gd : ∀ r ∈ ll, ∀ g, 0 ≤ r.getD g 0 ∧ r.getD g 0 ≤ 3 := fun r hr g => by
          by_cases d : g < r.length
          · exact h3 r hr _ (List.mem_of_getElem? (getD_at d))
          · rw [far0 (by omega)]; decide
        have bd : ∀ g, 0 ≤ b.getD g 0 := fun g => by
          by_cases d : g < b.length
          · exact (hb4 _ (List.mem_of_getElem? (getD_at d))).1
          · rw [far0 (by omega)]; exact Int.le_refl _
        obtain ⟨k, k1, k9, c, hc⟩ := within_nine hw2 hLl (fun e => by rw [e] at hok; exact absurd hok.1 (by decide)) (fun r hr => ⟨(gd r hr 0).1, (gd r hr 1).1, by
            obtain ⟨n, hn, n0⟩ := (hkd r hr).2.2
            obtain ⟨j, hj⟩ := List.mem_iff_getElem?.mp hn
            have hjl := (List.getElem?_eq_some_iff.mp hj).1
            rw [(hrw r hr).1] at hjl
            have ej : r.getD j 0 = n := by rw [List.getD_eq_getElem?_getD, hj]; rfl
            have : j = 0 ∨ j = 1 := by omega
            rcases this with e | e
            · left
              rw [e] at ej
              show 0 < r.getD 0 0
              omega
            · right
              rw [e] at ej
              show 0 < r.getD 1 0
              omega⟩) (fun r hr => ⟨(gd r hr 0).2, (gd r hr 1).2⟩) hbl (bd 0) (bd 1) hpr
        have cpos : 0 < cnt ll (b.map fun z => z * k) := cnt_yes hkd (tml k) hc
        refine ⟨1, 10, rfl, by decide, fun D nD => ?_⟩
        refine lc_range (lo := 1) (n := ((10 : Int) - 1).toNat) (fun i H' => Same H5 H' ∧ ∃ ks : List Int, H' D = some (.lst (ks.map V.int)) ∧ ks.length ≤ i ∧ (k < 1 + (i : Nat) → ks ≠ [])) ⟨same_new nD, [], upd_same, Nat.le_refl _, fun z => by omega⟩ (fun i H' hi ⟨sm, ks, hD, hkl, hkn⟩ => ?_) (fun H' ⟨sm, ks, hD, hkl, hkn⟩ => ?_)
        · have hi9 : i < 9 := hi
          have X6 := X5.same sm
          refine ⟨rfl, ?_⟩
          refine ⟨.ref p, rfl, .ref bl, rfl, .int (1 + (i : Nat)), rfl, bl, b, _, rfl, X6.B, by omega, hb1000, fun H6 t s6 ht => ?_⟩
          have X7 := X6.same s6
          refine ⟨p, t, as, ll, _, rfl, X7.S.R, ef, ht, tml _, tmG _ (by omega) (by omega), box_few (by rw [tml]; omega) (times_bd (by omega) hb4 (by omega)), fun H7 s7 => ?_⟩
          have sm7 := sm.trans (s6.trans s7)
          have hD7 := (s6.trans s7) _ _ hD
          refine ⟨_, 0, rfl, rfl, _, rfl, ite2 (fun c1 => ?_) (fun c1 => ?_)⟩
          · refine ⟨_, rfl, _, hD7, by rw [List.length_map]; exact small1000 (by omega), same_late sm7 nD, ks ++ [(1 : Int) + ((i : Nat) : Int)], by rw [upd_same, List.map_append]; rfl, by rw [List.length_append, List.length_singleton]; omega, fun _ => by simp⟩
          · refine ⟨sm7, ks, hD7, by omega, fun z => ?_⟩
            by_cases d : k < 1 + (i : Nat)
            · exact hkn d
            · exfalso
              have e : k = 1 + (i : Nat) := by omega
              rw [← e] at c1
              exact c1 (decide_eq_true (by omega))
        · have hne := hkn (by show k < 1 + ((9 : Nat) : Int); omega)
          refine ⟨.ref D, rfl, Nat.zero_le _, fun le nle => ?_⟩
          have se := same_new (o := .lst []) nle
          refine ⟨.list (ks.map PyData.int), .list [], .lst (SqL.of (se _ _ hD)) (dp_ints ks), .lst (SqL.of upd_same) .nil, ?_, by simp [SeqAt.shaped, PyData.canLay0, PyData.canLayAll0, PyData.depth, PyData.depthAll], _, rfl, ?_⟩
          · simp [SeqAt.shaped, PyData.canLay0, PyData.depth, PySem.W.ke_canLayAll0, PySem.W.ke_depthAll]
          have ee : PyData.eqv (.list (ks.map PyData.int)) (.list []) = false := by
            cases ks with
            | nil => exact absurd rfl hne
            | cons z zs => simp [PyData.eqv, PyData.eqvAll]
          rw [ee]
          exact iteF ⟨⟨_, _, _, _, _, _, rfl⟩, X5.same (sm.trans se)⟩
      · exact ⟨.ref fa, rfl, rfl, _, rfl, iteF ⟨⟨_, _, _, _, _, _, rfl⟩, X5⟩⟩
    clear X5 Fd5
    rintro σ' H5 ⟨⟨y2, y5, y6, y7, y8, y9, rfl⟩, X5⟩
    refine ⟨fun σ' H' => ∃ (v : V), (∃ y2 y5 y6 y7 y9, σ' = [some (.ref a), some (.ref fe), y2, some (.ref p), some (.ref bl), y5, y6, y7, some (v), y9, none, none]) ∧ S8 cf fe TT p bl as ll b H' ∧ (v = .non ∨ ∃ t r x y, v = .ref t ∧ H' t = some (.tup [.ref r, .int y]) ∧ IntsAt H' r x ∧ Ent (2 ^ 60000) x ∧ RestOk ll b x y), ?_, ?_⟩
    · refine ⟨.ref p, rfl, .ref bl, rfl, p, bl, as, ll, b, rfl, X5.S.R, ef, X5.B, by omega, X5.S.T, fun _ => ⟨fun H8 e8 T8 _ => ?_, fun H8 t r x y e8 T8 ht hr he ro => ?_⟩, fun z => absurd ewb z⟩
      · exact ⟨_, ⟨_, _, _, _, _, rfl⟩, X5.ext e8 T8, .inl rfl⟩
      · exact ⟨_, ⟨_, _, _, _, _, rfl⟩, X5.ext e8 T8, .inr ⟨t, r, x, y, rfl, ht, hr, he, ro⟩⟩
    clear X5
    rintro σ' H5 ⟨v, ⟨y2, y5, y6, y7, y9, rfl⟩, X5, Fd5⟩
    rcases Fd5 with rfl | ⟨t, r, x, y, rfl, ht, hr, he, ro⟩
    · exact ⟨.non, rfl, rfl, _, rfl, iteF (iteF ⟨⟨_, _, _, _, _, _, _, _, rfl⟩, X5.S.F, X5.S.T⟩)⟩
    · have e6 : (10 : Int) ^ (6 : Int).toNat = 1000000 := by decide
      have hxl : x.length ≤ 100 := by rw [ro.len, hbl]; omega
      have y2 := ro.two
      refine ⟨.ref t, rfl, rfl, _, rfl, iteT ?_⟩
      refine ⟨.ref t, rfl, t, _, 1, .int y, rfl, rfl, SqT.of ht, rfl, 10, 6, rfl, rfl, ⟨by decide, by decide, by decide⟩, y, _, rfl, rfl, _, rfl, ?_⟩
      rw [e6]
      refine ite2 (fun c1 => ?_) (fun c1 => ⟨⟨_, _, _, _, _, _, _, _, rfl⟩, X5.S.F, X5.S.T⟩)
      have y6 : y < 1000000 := of_decide_eq_true c1
      refine ⟨fun σ' H' => ∃ (z : Int), (∃ y2 y5 y6 y7, σ' = [some (.ref a), some (.ref fe), y2, some (.ref p), some (.ref bl), y5, y6, y7, some (.ref t), some (.int (1 + y * z)), none, none]) ∧ S8 cf fe TT p bl as ll b H' ∧ H' t = some (.tup [.ref r, .int y]) ∧ IntsAt H' r x ∧ 0 ≤ z ∧ z < 1000, ?_, ?_⟩
      · refine ⟨.ref t, rfl, t, _, 1, .int y, rfl, rfl, SqT.of ht, rfl, .ref fe, rfl, fe, cf, rfl, X5.S.F, fun d H6 d0 d1 k6 F6 => ?_⟩
        refine ⟨d, 1000, rfl, rfl, (show (0 : Int) < 1000 by decide), y, _, rfl, rfl, .inl ⟨by omega, by omega⟩, 1, _, rfl, rfl, ?_⟩
        exact ⟨d % 1000, ⟨_, _, _, _, rfl⟩, X5.kp k6 F6, k6 _ _ (X5.S.F.tup ht) ht, hr.kp X5.S.F k6, Int.emod_nonneg _ (by decide), Int.emod_lt_of_pos _ (by decide)⟩
      clear X5 ht hr
      rintro σ' H5 ⟨z, ⟨y2, y5, y6, y7, rfl⟩, X5, ht, hr, z0, z1⟩
      have ov0 : 0 ≤ y * z := Int.mul_nonneg (by omega) z0
      have ov1 : y * z ≤ 1000000 * 1000 := Int.mul_le_mul (by omega) (by omega) z0 (by decide)
      refine ⟨fun σ' H' => (∃ y2 y5 y6 y7 y9, σ' = [some (.ref a), some (.ref fe), y2, some (.ref p), some (.ref bl), y5, y6, y7, some (.ref t), y9, none, none]) ∧ S8 cf fe TT p bl as ll b H' ∧ H' t = some (.tup [.ref r, .int y]) ∧ IntsAt H' r x, ?_, ?_⟩
      · refine ⟨.ref p, rfl, .ref bl, rfl, _, rfl, bl, b, _, rfl, X5.B, by omega, hb1000, fun H6 u s6 hu => ?_⟩
        have X6 := X5.same s6
        refine ⟨.ref t, rfl, p, u, t, as, ll, _, rfl, X6.S.R, ef, hu, by rw [tml]; omega, fun _ => ⟨r, x, y, s6 _ _ ht, hr.same s6, hxl, he, fun H7 s7 => ?_⟩, fun w => absurd (tmW _ (by omega) (by omega)) w⟩
        rw [reB_iff.mpr (rest_over ro)]
        exact ⟨_, rfl, iteF ⟨⟨_, _, _, _, _, rfl⟩, X6.same s7, s7 _ _ (s6 _ _ ht), (hr.same s6).same s7⟩⟩
      clear X5 ht hr
      rintro σ' H5 ⟨⟨y2, y5, y6, y7, y9, rfl⟩, X5, ht, hr⟩
      refine ⟨.ref p, rfl, .ref bl, rfl, .ref t, rfl, t, _, 1, .int y, rfl, rfl, SqT.of ht, rfl, bl, b, y, rfl, X5.B, by omega, hb1000, fun H6 u s6 hu => ?_⟩
      have X6 := X5.same s6
      refine ⟨.ref t, rfl, p, u, t, as, ll, _, rfl, X6.S.R, ef, hu, by rw [tml]; omega, fun _ => ⟨r, x, y, s6 _ _ ht, hr.same s6, hxl, he, fun H7 s7 => ?_⟩, fun w => absurd (tmW _ (by omega) (by omega)) w⟩
      rw [rest_by]
      exact ⟨_, rfl, iteF ⟨⟨_, _, _, _, _, _, _, _, rfl⟩, (X6.same s7).S.F, (X6.same s7).S.T⟩⟩

end
end HL

namespace HL
open PySem PySem.Spec PyProof.Rows L2
open LamX (Tabs TabS TabB LawAtS)
/-- whether an error of the class T is what an except clause of S takes -/
theorem exm_by {K : PySem.W.Frag} {S T : Addr} {b : Bool} (h1 : PySem.W.subIn K (.ref S) (.type "BaseException") = some true) (h2 : PySem.W.isClsIn K S = true) (h3 : PySem.W.typeIn K (.ref S) = some (.type "type"))
    (h4 : PySem.W.subIn K (.ref T) (.ref S) = some b) : PySem.W.exmOne K (.ref T) (.ref S) = some b := by
  have e1 : (PySem.W.subIn K (.ref S) (.type "BaseException") == some true) = true := by rw [h1] <;> rfl
  have e2 : ((PySem.W.clsIn K S).isSome && PySem.W.typeIn K (.ref S) == some (.type "type")) = true := by
    have h2' : (PySem.W.clsIn K S).isSome = true := h2
    rw [h2', h3] <;> rfl
  show (if (PySem.W.subIn K (.ref S) (.type "BaseException") == some true) = true then (if ((PySem.W.clsIn K S).isSome && PySem.W.typeIn K (.ref S) == some (.type "type")) = true then PySem.W.subIn K (.ref T) (.ref S) else none) else none) = some b
  rw [if_pos e1, if_pos e2]
  exact h4
theorem rev_vals {zs : List V} {ws : List Value} (r : Vals zs ws) : Vals zs.reverse ws.reverse := by
  induction r with
  | nil => exact .nil
  | cons r t ih =>
    rw [List.reverse_cons, List.reverse_cons]
    exact ih.append (.cons r .nil)
theorem all_mk {l : PySem.W.OpenLaw} {w : World} {K : PySem.W.Frag} {h : Heap} {mg : Str → Option Value} {fa : Addr} (X : K.In h) (G : h.Ns mainGlobals mg) (hfa : mg "law" = some (.ref fa))
    {f0 : Addr} {oc0 kV0 dc0 pm0 cd0 ct0 : Value} {od0 an0 : Option Addr} {sl0 : Array (Option Value)}
    {f1 : Addr} {oc1 kV1 dc1 pm1 cd1 ct1 : Value} {od1 an1 : Option Addr} {sl1 : Array (Option Value)}
    {f2 : Addr} {oc2 kV2 dc2 pm2 cd2 ct2 : Value} {od2 an2 : Option Addr} {sl2 : Array (Option Value)}
    {f3 : Addr} {oc3 kV3 dc3 pm3 cd3 ct3 : Value} {od3 an3 : Option Addr} {sl3 : Array (Option Value)}
    {f4 : Addr} {oc4 kV4 dc4 pm4 cd4 ct4 : Value} {od4 an4 : Option Addr} {sl4 : Array (Option Value)}
    {f5 : Addr} {oc5 kV5 dc5 pm5 cd5 ct5 : Value} {od5 an5 : Option Addr} {sl5 : Array (Option Value)}
    {f6 : Addr} {oc6 kV6 dc6 pm6 cd6 ct6 : Value} {od6 an6 : Option Addr} {sl6 : Array (Option Value)}
    {f7 : Addr} {oc7 kV7 dc7 pm7 cd7 ct7 : Value} {od7 an7 : Option Addr} {sl7 : Array (Option Value)}
    {f8 : Addr} {oc8 kV8 dc8 pm8 cd8 ct8 : Value} {od8 an8 : Option Addr} {sl8 : Array (Option Value)}
    {f9 : Addr} {oc9 kV9 dc9 pm9 cd9 ct9 : Value} {od9 an9 : Option Addr} {sl9 : Array (Option Value)}
    {f10 : Addr} {oc10 kV10 dc10 pm10 cd10 ct10 : Value} {od10 an10 : Option Addr} {sl10 : Array (Option Value)}
    {f11 : Addr} {oc11 kV11 dc11 pm11 cd11 ct11 : Value} {od11 an11 : Option Addr} {sl11 : Array (Option Value)}
    {f12 : Addr} {oc12 kV12 dc12 pm12 cd12 ct12 : Value} {od12 an12 : Option Addr} {sl12 : Array (Option Value)}
    {f13 : Addr} {oc13 kV13 dc13 pm13 cd13 ct13 : Value} {od13 an13 : Option Addr} {sl13 : Array (Option Value)}
    {f14 : Addr} {oc14 kV14 dc14 pm14 cd14 ct14 : Value} {od14 an14 : Option Addr} {sl14 : Array (Option Value)}
    {f15 : Addr} {oc15 kV15 dc15 pm15 cd15 ct15 : Value} {od15 an15 : Option Addr} {sl15 : Array (Option Value)}
    {f16 : Addr} {oc16 kV16 dc16 pm16 cd16 ct16 : Value} {od16 an16 : Option Addr} {sl16 : Array (Option Value)}
    {f17 : Addr} {oc17 kV17 dc17 pm17 cd17 ct17 : Value} {od17 an17 : Option Addr} {sl17 : Array (Option Value)}
    {f18 : Addr} {oc18 kV18 dc18 pm18 cd18 ct18 : Value} {od18 an18 : Option Addr} {sl18 : Array (Option Value)}
    {f19 : Addr} {oc19 kV19 dc19 pm19 cd19 ct19 : Value} {od19 an19 : Option Addr} {sl19 : Array (Option Value)}
    {f20 : Addr} {oc20 kV20 dc20 pm20 cd20 ct20 : Value} {od20 an20 : Option Addr} {sl20 : Array (Option Value)}
    {f21 : Addr} {oc21 kV21 dc21 pm21 cd21 ct21 : Value} {od21 an21 : Option Addr} {sl21 : Array (Option Value)}
    {f22 : Addr} {oc22 kV22 dc22 pm22 cd22 ct22 : Value} {od22 an22 : Option Addr} {sl22 : Array (Option Value)}
    {f23 : Addr} {oc23 kV23 dc23 pm23 cd23 ct23 : Value} {od23 an23 : Option Addr} {sl23 : Array (Option Value)}
    {f24 : Addr} {oc24 kV24 dc24 pm24 cd24 ct24 : Value} {od24 an24 : Option Addr} {sl24 : Array (Option Value)}
    {f25 : Addr} {oc25 kV25 dc25 pm25 cd25 ct25 : Value} {od25 an25 : Option Addr} {sl25 : Array (Option Value)}
    {f26 : Addr} {oc26 kV26 dc26 pm26 cd26 ct26 : Value} {od26 an26 : Option Addr} {sl26 : Array (Option Value)}
    {f27 : Addr} {oc27 kV27 dc27 pm27 cd27 ct27 : Value} {od27 an27 : Option Addr} {sl27 : Array (Option Value)}
    {f28 : Addr} {oc28 kV28 dc28 pm28 cd28 ct28 : Value} {od28 an28 : Option Addr} {sl28 : Array (Option Value)}
    {f29 : Addr} {oc29 kV29 dc29 pm29 cd29 ct29 : Value} {od29 an29 : Option Addr} {sl29 : Array (Option Value)}
    {f30 : Addr} {oc30 kV30 dc30 pm30 cd30 ct30 : Value} {od30 an30 : Option Addr} {sl30 : Array (Option Value)}
    {f31 : Addr} {oc31 kV31 dc31 pm31 cd31 ct31 : Value} {od31 an31 : Option Addr} {sl31 : Array (Option Value)}
    {f32 : Addr} {oc32 kV32 dc32 pm32 cd32 ct32 : Value} {od32 an32 : Option Addr} {sl32 : Array (Option Value)}
    {f33 : Addr} {oc33 kV33 dc33 pm33 cd33 ct33 : Value} {od33 an33 : Option Addr} {sl33 : Array (Option Value)}
    {fLe TLe : Addr} {ocLe kVLe dcLe pmLe cdLe ctLe ocTLe : Value} {odLe anLe odTLe : Option Addr} {slLe slTLe : Array (Option Value)} {tkLe : Tok} {nTLe : Nat}
    {fW ccW PW : Addr} {ocW kVW dcW pmW ctW : Value} {odW anW : Option Addr} {slW : Array (Option Value)}
    {fL : Addr} {ocL kVL dcL pmL cdvL ctL : Value} {odL anL : Option Addr} {slL : Array (Option Value)}
    {C1 CE1 fI1 N1 : Addr} {nm1 q1 : Str} {bs1 : List Value} {sn1 : List Str} {sub1 : List Value} {ab1 : Bool} {col1 : Option Bool} {dd1 : Option Addr} {m01 m11 m21 m31 m51 : Option Value} {ocI1 kVI1 dcI1 pmI1 cdI1 ctI1 : Value} {odI1 anI1 : Option Addr} {slI1 : Array (Option Value)}
    {t6 : Tok}
    {t5 : Tok}
    {t3 : Tok}
    {t30 : Tok}
    {t4000 : Tok}
    (hTabW : h.get? PW = some (PySem.W.tabObj #[]))
    (a0 : PySem.W.nsIn K mainGlobals "is_hold" = some (some (.ref f0)))
    (l0 : K.lookup f0 = some ⟨oc0, od0, .func (PySem.W.fnOf "is_hold" "is_hold" (defArgs sIsHold) (defBody sIsHold) (defScope sIsHold) .none kV0 dc0 pm0 an0 cd0 ct0), sl0⟩)
    (c0 : PySem.W.codeIn K cd0 "is_hold" = true)
    (k0 : PySem.W.keepIn K (.ref f0) = true)
    (a1 : PySem.W.nsIn K mainGlobals "look_lot" = some (some (.ref f1)))
    (l1 : K.lookup f1 = some ⟨oc1, od1, .func (PySem.W.fnOf "look_lot" "look_lot" (defArgs sLook) (defBody sLook) (defScope sLook) .none kV1 dc1 pm1 an1 cd1 ct1), sl1⟩)
    (c1 : PySem.W.codeIn K cd1 "look_lot" = true)
    (k1 : PySem.W.keepIn K (.ref f1) = true)
    (a2 : PySem.W.nsIn K mainGlobals "goods_of" = some (some (.ref f2)))
    (l2 : K.lookup f2 = some ⟨oc2, od2, .func (PySem.W.fnOf "goods_of" "goods_of" (defArgs sGoods) (defBody sGoods) (defScope sGoods) .none kV2 dc2 pm2 an2 cd2 ct2), sl2⟩)
    (c2 : PySem.W.codeIn K cd2 "goods_of" = true)
    (k2 : PySem.W.keepIn K (.ref f2) = true)
    (a3 : PySem.W.nsIn K mainGlobals "first_wrong" = some (some (.ref f3)))
    (l3 : K.lookup f3 = some ⟨oc3, od3, .func (PySem.W.fnOf "first_wrong" "first_wrong" (defArgs sFirst) (defBody sFirst) (defScope sFirst) .none kV3 dc3 pm3 an3 cd3 ct3), sl3⟩)
    (c3 : PySem.W.codeIn K cd3 "first_wrong" = true)
    (k3 : PySem.W.keepIn K (.ref f3) = true)
    (a4 : PySem.W.nsIn K mainGlobals "look_bill" = some (some (.ref f4)))
    (l4 : K.lookup f4 = some ⟨oc4, od4, .func (PySem.W.fnOf "look_bill" "look_bill" (defArgs sLookBill) (defBody sLookBill) (defScope sLookBill) .none kV4 dc4 pm4 an4 cd4 ct4), sl4⟩)
    (c4 : PySem.W.codeIn K cd4 "look_bill" = true)
    (k4 : PySem.W.keepIn K (.ref f4) = true)
    (a5 : PySem.W.nsIn K mainGlobals "unit" = some (some (.ref f5)))
    (l5 : K.lookup f5 = some ⟨oc5, od5, .func (PySem.W.fnOf "unit" "unit" (defArgs sUnit) (defBody sUnit) (defScope sUnit) .none kV5 dc5 pm5 an5 cd5 ct5), sl5⟩)
    (c5 : PySem.W.codeIn K cd5 "unit" = true)
    (k5 : PySem.W.keepIn K (.ref f5) = true)
    (a6 : PySem.W.nsIn K mainGlobals "opposite" = some (some (.ref f6)))
    (l6 : K.lookup f6 = some ⟨oc6, od6, .func (PySem.W.fnOf "opposite" "opposite" (defArgs sOpp) (defBody sOpp) (defScope sOpp) .none kV6 dc6 pm6 an6 cd6 ct6), sl6⟩)
    (c6 : PySem.W.codeIn K cd6 "opposite" = true)
    (k6 : PySem.W.keepIn K (.ref f6) = true)
    (a7 : PySem.W.nsIn K mainGlobals "weighed" = some (some (.ref f7)))
    (l7 : K.lookup f7 = some ⟨oc7, od7, .func (PySem.W.fnOf "weighed" "weighed" (defArgs sWeigh) (defBody sWeigh) (defScope sWeigh) .none kV7 dc7 pm7 an7 cd7 ct7), sl7⟩)
    (c7 : PySem.W.codeIn K cd7 "weighed" = true)
    (k7 : PySem.W.keepIn K (.ref f7) = true)
    (a8 : PySem.W.nsIn K mainGlobals "look_box" = some (some (.ref f8)))
    (l8 : K.lookup f8 = some ⟨oc8, od8, .func (PySem.W.fnOf "look_box" "look_box" (defArgs sBox) (defBody sBox) (defScope sBox) .none kV8 dc8 pm8 an8 cd8 ct8), sl8⟩)
    (c8 : PySem.W.codeIn K cd8 "look_box" = true)
    (k8 : PySem.W.keepIn K (.ref f8) = true)
    (a9 : PySem.W.nsIn K mainGlobals "look_both" = some (some (.ref f9)))
    (l9 : K.lookup f9 = some ⟨oc9, od9, .func (PySem.W.fnOf "look_both" "look_both" (defArgs sBoth) (defBody sBoth) (defScope sBoth) .none kV9 dc9 pm9 an9 cd9 ct9), sl9⟩)
    (c9 : PySem.W.codeIn K cd9 "look_both" = true)
    (k9 : PySem.W.keepIn K (.ref f9) = true)
    (a10 : PySem.W.nsIn K mainGlobals "cells_of" = some (some (.ref f10)))
    (l10 : K.lookup f10 = some ⟨oc10, od10, .func (PySem.W.fnOf "cells_of" "cells_of" (defArgs sCells) (defBody sCells) (defScope sCells) .none kV10 dc10 pm10 an10 cd10 ct10), sl10⟩)
    (c10 : PySem.W.codeIn K cd10 "cells_of" = true)
    (k10 : PySem.W.keepIn K (.ref f10) = true)
    (a11 : PySem.W.nsIn K mainGlobals "with_one_more" = some (some (.ref f11)))
    (l11 : K.lookup f11 = some ⟨oc11, od11, .func (PySem.W.fnOf "with_one_more" "with_one_more" (defArgs sOneMore) (defBody sOneMore) (defScope sOneMore) .none kV11 dc11 pm11 an11 cd11 ct11), sl11⟩)
    (c11 : PySem.W.codeIn K cd11 "with_one_more" = true)
    (k11 : PySem.W.keepIn K (.ref f11) = true)
    (a12 : PySem.W.nsIn K mainGlobals "tables_of" = some (some (.ref f12)))
    (l12 : K.lookup f12 = some ⟨oc12, od12, .func (PySem.W.fnOf "tables_of" "tables_of" (defArgs sTables) (defBody sTables) (defScope sTables) .none kV12 dc12 pm12 an12 cd12 ct12), sl12⟩)
    (c12 : PySem.W.codeIn K cd12 "tables_of" = true)
    (k12 : PySem.W.keepIn K (.ref f12) = true)
    (a13 : PySem.W.nsIn K mainGlobals "how_many" = some (some (.ref f13)))
    (l13 : K.lookup f13 = some ⟨oc13, od13, .func (PySem.W.fnOf "how_many" "how_many" (defArgs sHowMany) (defBody sHowMany) (defScope sHowMany) .none kV13 dc13 pm13 an13 cd13 ct13), sl13⟩)
    (c13 : PySem.W.codeIn K cd13 "how_many" = true)
    (k13 : PySem.W.keepIn K (.ref f13) = true)
    (a14 : PySem.W.nsIn K mainGlobals "are_prices" = some (some (.ref f14)))
    (l14 : K.lookup f14 = some ⟨oc14, od14, .func (PySem.W.fnOf "are_prices" "are_prices" (defArgs sArePr) (defBody sArePr) (defScope sArePr) .none kV14 dc14 pm14 an14 cd14 ct14), sl14⟩)
    (c14 : PySem.W.codeIn K cd14 "are_prices" = true)
    (k14 : PySem.W.keepIn K (.ref f14) = true)
    (a15 : PySem.W.nsIn K mainGlobals "prices_hold" = some (some (.ref f15)))
    (l15 : K.lookup f15 = some ⟨oc15, od15, .func (PySem.W.fnOf "prices_hold" "prices_hold" (defArgs sPrHold) (defBody sPrHold) (defScope sPrHold) .none kV15 dc15 pm15 an15 cd15 ct15), sl15⟩)
    (c15 : PySem.W.codeIn K cd15 "prices_hold" = true)
    (k15 : PySem.W.keepIn K (.ref f15) = true)
    (a16 : PySem.W.nsIn K mainGlobals "upright" = some (some (.ref f16)))
    (l16 : K.lookup f16 = some ⟨oc16, od16, .func (PySem.W.fnOf "upright" "upright" (defArgs sUpright) (defBody sUpright) (defScope sUpright) .none kV16 dc16 pm16 an16 cd16 ct16), sl16⟩)
    (c16 : PySem.W.codeIn K cd16 "upright" = true)
    (k16 : PySem.W.keepIn K (.ref f16) = true)
    (a17 : PySem.W.nsIn K mainGlobals "price_rows" = some (some (.ref f17)))
    (l17 : K.lookup f17 = some ⟨oc17, od17, .func (PySem.W.fnOf "price_rows" "price_rows" (defArgs sPrRows) (defBody sPrRows) (defScope sPrRows) .none kV17 dc17 pm17 an17 cd17 ct17), sl17⟩)
    (c17 : PySem.W.codeIn K cd17 "price_rows" = true)
    (k17 : PySem.W.keepIn K (.ref f17) = true)
    (a18 : PySem.W.nsIn K mainGlobals "prices" = some (some (.ref f18)))
    (l18 : K.lookup f18 = some ⟨oc18, od18, .func (PySem.W.fnOf "prices" "prices" (defArgs sPrices) (defBody sPrices) (defScope sPrices) .none kV18 dc18 pm18 an18 cd18 ct18), sl18⟩)
    (c18 : PySem.W.codeIn K cd18 "prices" = true)
    (k18 : PySem.W.keepIn K (.ref f18) = true)
    (a19 : PySem.W.nsIn K mainGlobals "rests_hold" = some (some (.ref f19)))
    (l19 : K.lookup f19 = some ⟨oc19, od19, .func (PySem.W.fnOf "rests_hold" "rests_hold" (defArgs sReHold) (defBody sReHold) (defScope sReHold) .none kV19 dc19 pm19 an19 cd19 ct19), sl19⟩)
    (c19 : PySem.W.codeIn K cd19 "rests_hold" = true)
    (k19 : PySem.W.keepIn K (.ref f19) = true)
    (a20 : PySem.W.nsIn K mainGlobals "stairs_of" = some (some (.ref f20)))
    (l20 : K.lookup f20 = some ⟨oc20, od20, .func (PySem.W.fnOf "stairs_of" "stairs_of" (defArgs sStairs) (defBody sStairs) (defScope sStairs) .none kV20 dc20 pm20 an20 cd20 ct20), sl20⟩)
    (c20 : PySem.W.codeIn K cd20 "stairs_of" = true)
    (k20 : PySem.W.keepIn K (.ref f20) = true)
    (a21 : PySem.W.nsIn K mainGlobals "row_coming_to" = some (some (.ref f21)))
    (l21 : K.lookup f21 = some ⟨oc21, od21, .func (PySem.W.fnOf "row_coming_to" "row_coming_to" (defArgs sComing) (defBody sComing) (defScope sComing) .none kV21 dc21 pm21 an21 cd21 ct21), sl21⟩)
    (c21 : PySem.W.codeIn K cd21 "row_coming_to" = true)
    (k21 : PySem.W.keepIn K (.ref f21) = true)
    (a22 : PySem.W.nsIn K mainGlobals "whole_of" = some (some (.ref f22)))
    (l22 : K.lookup f22 = some ⟨oc22, od22, .func (PySem.W.fnOf "whole_of" "whole_of" (defArgs sWhole) (defBody sWhole) (defScope sWhole) .none kV22 dc22 pm22 an22 cd22 ct22), sl22⟩)
    (c22 : PySem.W.codeIn K cd22 "whole_of" = true)
    (k22 : PySem.W.keepIn K (.ref f22) = true)
    (a23 : PySem.W.nsIn K mainGlobals "least_none" = some (some (.ref f23)))
    (l23 : K.lookup f23 = some ⟨oc23, od23, .func (PySem.W.fnOf "least_none" "least_none" (defArgs sLeastNone) (defBody sLeastNone) (defScope sLeastNone) .none kV23 dc23 pm23 an23 cd23 ct23), sl23⟩)
    (c23 : PySem.W.codeIn K cd23 "least_none" = true)
    (k23 : PySem.W.keepIn K (.ref f23) = true)
    (a24 : PySem.W.nsIn K mainGlobals "rests_by_parts" = some (some (.ref f24)))
    (l24 : K.lookup f24 = some ⟨oc24, od24, .func (PySem.W.fnOf "rests_by_parts" "rests_by_parts" (defArgs sByParts) (defBody sByParts) (defScope sByParts) .none kV24 dc24 pm24 an24 cd24 ct24), sl24⟩)
    (c24 : PySem.W.codeIn K cd24 "rests_by_parts" = true)
    (k24 : PySem.W.keepIn K (.ref f24) = true)
    (a25 : PySem.W.nsIn K mainGlobals "rests_beside" = some (some (.ref f25)))
    (l25 : K.lookup f25 = some ⟨oc25, od25, .func (PySem.W.fnOf "rests_beside" "rests_beside" (defArgs sReBeside) (defBody sReBeside) (defScope sReBeside) .none kV25 dc25 pm25 an25 cd25 ct25), sl25⟩)
    (c25 : PySem.W.codeIn K cd25 "rests_beside" = true)
    (k25 : PySem.W.keepIn K (.ref f25) = true)
    (a26 : PySem.W.nsIn K mainGlobals "rests" = some (some (.ref f26)))
    (l26 : K.lookup f26 = some ⟨oc26, od26, .func (PySem.W.fnOf "rests" "rests" (defArgs sRests) (defBody sRests) (defScope sRests) .none kV26 dc26 pm26 an26 cd26 ct26), sl26⟩)
    (c26 : PySem.W.codeIn K cd26 "rests" = true)
    (k26 : PySem.W.keepIn K (.ref f26) = true)
    (a27 : PySem.W.nsIn K mainGlobals "_law_feed" = some (some (.ref f27)))
    (l27 : K.lookup f27 = some ⟨oc27, od27, .func (PySem.W.fnOf "_law_feed" "_law_feed" (defArgs sFeed) (defBody sFeed) (defScope sFeed) .none kV27 dc27 pm27 an27 cd27 ct27), sl27⟩)
    (c27 : PySem.W.codeIn K cd27 "_law_feed" = true)
    (k27 : PySem.W.keepIn K (.ref f27) = true)
    (a28 : PySem.W.nsIn K mainGlobals "_law_draw" = some (some (.ref f28)))
    (l28 : K.lookup f28 = some ⟨oc28, od28, .func (PySem.W.fnOf "_law_draw" "_law_draw" (defArgs sDraw) (defBody sDraw) (defScope sDraw) .none kV28 dc28 pm28 an28 cd28 ct28), sl28⟩)
    (c28 : PySem.W.codeIn K cd28 "_law_draw" = true)
    (k28 : PySem.W.keepIn K (.ref f28) = true)
    (a29 : PySem.W.nsIn K mainGlobals "_law_pick" = some (some (.ref f29)))
    (l29 : K.lookup f29 = some ⟨oc29, od29, .func (PySem.W.fnOf "_law_pick" "_law_pick" (defArgs sPick) (defBody sPick) (defScope sPick) .none kV29 dc29 pm29 an29 cd29 ct29), sl29⟩)
    (c29 : PySem.W.codeIn K cd29 "_law_pick" = true)
    (k29 : PySem.W.keepIn K (.ref f29) = true)
    (a30 : PySem.W.nsIn K mainGlobals "_law_great" = some (some (.ref f30)))
    (l30 : K.lookup f30 = some ⟨oc30, od30, .func (PySem.W.fnOf "_law_great" "_law_great" (defArgs sGreat) (defBody sGreat) (defScope sGreat) .none kV30 dc30 pm30 an30 cd30 ct30), sl30⟩)
    (c30 : PySem.W.codeIn K cd30 "_law_great" = true)
    (k30 : PySem.W.keepIn K (.ref f30) = true)
    (a31 : PySem.W.nsIn K mainGlobals "_law_hold" = some (some (.ref f31)))
    (l31 : K.lookup f31 = some ⟨oc31, od31, .func (PySem.W.fnOf "_law_hold" "_law_hold" (defArgs sHold) (defBody sHold) (defScope sHold) .none kV31 dc31 pm31 an31 cd31 ct31), sl31⟩)
    (c31 : PySem.W.codeIn K cd31 "_law_hold" = true)
    (k31 : PySem.W.keepIn K (.ref f31) = true)
    (a32 : PySem.W.nsIn K mainGlobals "_law_lot" = some (some (.ref f32)))
    (l32 : K.lookup f32 = some ⟨oc32, od32, .func (PySem.W.fnOf "_law_lot" "_law_lot" (defArgs sLot) (defBody sLot) (defScope sLot) .none kV32 dc32 pm32 an32 cd32 ct32), sl32⟩)
    (c32 : PySem.W.codeIn K cd32 "_law_lot" = true)
    (k32 : PySem.W.keepIn K (.ref f32) = true)
    (a33 : PySem.W.nsIn K mainGlobals "_law_times" = some (some (.ref f33)))
    (l33 : K.lookup f33 = some ⟨oc33, od33, .func (PySem.W.fnOf "_law_times" "_law_times" (defArgs sTimes) (defBody sTimes) (defScope sTimes) .none kV33 dc33 pm33 an33 cd33 ct33), sl33⟩)
    (c33 : PySem.W.codeIn K cd33 "_law_times" = true)
    (k33 : PySem.W.keepIn K (.ref f33) = true)
    (aLe : PySem.W.nsIn K mainGlobals "less" = some (some (.ref fLe)))
    (lLe : K.lookup fLe = some ⟨ocLe, odLe, .func (PySem.W.fnOf "less" "less" (defArgs sLess) (defBody sLess) (defScope sLess) (.ref TLe) kVLe dcLe pmLe anLe cdLe ctLe), slLe⟩)
    (cLe : PySem.W.codeIn K cdLe "less" = true)
    (kLe : PySem.W.keepIn K (.ref fLe) = true)
    (lTLe : K.lookup TLe = some ⟨ocTLe, odTLe, .seq #[.int 1 tkLe] nTLe, slTLe⟩)
    (aW : PySem.W.nsIn K mainGlobals "with_one_at" = some (some (.ref fW)))
    (lW : K.lookup fW = some ⟨ocW, odW, .func (PySem.W.fnOf "with_one_at" "with_one_at" (defArgs sOneAt) (defBody sOneAt) (defScope sOneAt) .none kVW dcW pmW anW (.ref ccW) ctW), slW⟩)
    (cW : PySem.W.codeIn K (.ref ccW) "with_one_at" = true)
    (kW : PySem.W.keepIn K (.ref fW) = true)
    (nPW : K.lookup PW = none)
    (hdW : PySem.W.codeHdIn K ccW PW = true)
    (aL : PySem.W.nsIn K mainGlobals "law" = some (some (.ref fL)))
    (lL : K.lookup fL = some ⟨ocL, odL, .func (PySem.W.fnOf "law" "law" (defArgs sLaw) (defBody sLaw) (defScope sLaw) .none kVL dcL pmL anL cdvL ctL), slL⟩)
    (cdL : PySem.W.codeIn K cdvL "law" = true)
    (kL : PySem.W.keepIn K (.ref fL) = true)
    (aC1 : PySem.W.nsIn K mainGlobals "BadBill" = some (some (.ref C1)))
    (xL1 : K.lookup C1 = some (excClassObj nm1 q1 C1 N1 bs1 [.ref CE1, .type "ValueError", .type "Exception", .type "BaseException", .type "object"] true sn1 sub1 ab1 col1 dd1 m01 m11 m21 m31 m51 "ValueError.__new__"))
    (sa1 : PySem.W.findIn K (.ref C1) "__setattr__" = some (some (.builtin "object.__setattr__")))
    (ga1 : PySem.W.findIn K (.ref C1) "__getattribute__" = some (some (.builtin "BaseException.__getattribute__")))
    (gg1 : PySem.W.findIn K (.ref C1) "__getattr__" = some none)
    (nW1 : PySem.W.findIn K (.ref C1) "word" = some none)
    (nF1 : PySem.W.findIn K (.ref C1) "good" = some none)
    (aI1 : PySem.W.findIn K (.ref C1) "__init__" = some (some (.ref fI1)))
    (tI1 : PySem.W.typeIn K (.ref fI1) = some (.type "function"))
    (lI1 : K.lookup fI1 = some ⟨ocI1, odI1, .func (PySem.W.fnOf "__init__" "BadBill.__init__" (defArgs sBillInit) (defBody sBillInit) (defScope sBillInit) .none kVI1 dcI1 pmI1 anI1 cdI1 ctI1), slI1⟩)
    (cI1 : PySem.W.codeIn K cdI1 "BadBill.__init__" = true)
    (kI1 : PySem.W.keepIn K (.ref fI1) = true)
    (kC1 : PySem.W.keepIn K (.ref C1) = true)
    (eC1 : PySem.W.subIn K (.ref C1) (.type "BaseException") = some true)
    (tC1 : PySem.W.typeIn K (.ref C1) = some (.type "type"))
    (hC1 : PySem.W.hasDictIn K C1 = true)
    (iC1 : PySem.W.isClsIn K C1 = true)
    (v6 : PySem.W.nsIn K mainGlobals "MOST_HOLD" = some (some (.int 6 t6)))
    (v5 : PySem.W.nsIn K mainGlobals "MOST_KINDS" = some (some (.int 5 t5)))
    (v3 : PySem.W.nsIn K mainGlobals "MOST_GOODS" = some (some (.int 3 t3)))
    (v30 : PySem.W.nsIn K mainGlobals "GREAT" = some (some (.int G30 t30)))
    (v4000 : PySem.W.nsIn K mainGlobals "MOST_BOX" = some (some (.int 4000 t4000)))
    (z_len : PySem.W.nsIn K mainGlobals "len" = some none)
    (z_list : PySem.W.nsIn K mainGlobals "list" = some none)
    (z_tuple : PySem.W.nsIn K mainGlobals "tuple" = some none)
    (z_dict : PySem.W.nsIn K mainGlobals "dict" = some none)
    (z_str : PySem.W.nsIn K mainGlobals "str" = some none)
    (z_int : PySem.W.nsIn K mainGlobals "int" = some none)
    (z_bool : PySem.W.nsIn K mainGlobals "bool" = some none)
    (z_isinstance : PySem.W.nsIn K mainGlobals "isinstance" = some none)
    (z_all : PySem.W.nsIn K mainGlobals "all" = some none)
    (z_range : PySem.W.nsIn K mainGlobals "range" = some none)
    (z_sum : PySem.W.nsIn K mainGlobals "sum" = some none)
    (z_min : PySem.W.nsIn K mainGlobals "min" = some none)
    (z_max : PySem.W.nsIn K mainGlobals "max" = some none)
    (z_enumerate : PySem.W.nsIn K mainGlobals "enumerate" = some none)
    (z_zip : PySem.W.nsIn K mainGlobals "zip" = some none)
    (z_sorted : PySem.W.nsIn K mainGlobals "sorted" = some none)
    (z_abs : PySem.W.nsIn K mainGlobals "abs" = some none)
    (z_reversed : PySem.W.nsIn K mainGlobals "reversed" = some none)
    : LawAtS l w K CX0 9 63 "_law_script" mg fa h := by
  have e := hfa.symm.trans (PySem.W.mg_of X G aL)
  cases e
  have F0 := fun_mk (st := sIsHold) l0 c0 k0
  have b0 := F0.binds (ps := ["hold", "goods"]) fun _ _ _ _ _ _ us hl => match us, hl with | [_, _], _ => rfl
  have g0 := PySem.W.mg_of X G a0
  have F1 := fun_mk (st := sLook) l1 c1 k1
  have b1 := F1.binds (ps := ["lot"]) fun _ _ _ _ _ _ us hl => match us, hl with | [_], _ => rfl
  have g1 := PySem.W.mg_of X G a1
  have F2 := fun_mk (st := sGoods) l2 c2 k2
  have b2 := F2.binds (ps := ["lot"]) fun _ _ _ _ _ _ us hl => match us, hl with | [_], _ => rfl
  have g2 := PySem.W.mg_of X G a2
  have F3 := fun_mk (st := sFirst) l3 c3 k3
  have b3 := F3.binds (ps := ["row", "many"]) fun _ _ _ _ _ _ us hl => match us, hl with | [_, _], _ => rfl
  have g3 := PySem.W.mg_of X G a3
  have F4 := fun_mk (st := sLookBill) l4 c4 k4
  have b4 := F4.binds (ps := ["lot", "bill"]) fun _ _ _ _ _ _ us hl => match us, hl with | [_, _], _ => rfl
  have g4 := PySem.W.mg_of X G a4
  have F5 := fun_mk (st := sUnit) l5 c5 k5
  have b5 := F5.binds (ps := ["place", "many"]) fun _ _ _ _ _ _ us hl => match us, hl with | [_, _], _ => rfl
  have g5 := PySem.W.mg_of X G a5
  have F6 := fun_mk (st := sOpp) l6 c6 k6
  have b6 := F6.binds (ps := ["row"]) fun _ _ _ _ _ _ us hl => match us, hl with | [_], _ => rfl
  have g6 := PySem.W.mg_of X G a6
  have F7 := fun_mk (st := sWeigh) l7 c7 k7
  have b7 := F7.binds (ps := ["row", "other"]) fun _ _ _ _ _ _ us hl => match us, hl with | [_, _], _ => rfl
  have g7 := PySem.W.mg_of X G a7
  have F8 := fun_mk (st := sBox) l8 c8 k8
  have b8 := F8.binds (ps := ["bill"]) fun _ _ _ _ _ _ us hl => match us, hl with | [_], _ => rfl
  have g8 := PySem.W.mg_of X G a8
  have F9 := fun_mk (st := sBoth) l9 c9 k9
  have b9 := F9.binds (ps := ["lot", "bill"]) fun _ _ _ _ _ _ us hl => match us, hl with | [_, _], _ => rfl
  have g9 := PySem.W.mg_of X G a9
  have F10 := fun_mk (st := sCells) l10 c10 k10
  have b10 := F10.binds (ps := ["bill"]) fun _ _ _ _ _ _ us hl => match us, hl with | [_], _ => rfl
  have g10 := PySem.W.mg_of X G a10
  have F11 := fun_mk (st := sOneMore) l11 c11 k11
  have b11 := F11.binds (ps := ["cells", "table", "hold"]) fun _ _ _ _ _ _ us hl => match us, hl with | [_, _, _], _ => rfl
  have g11 := PySem.W.mg_of X G a11
  have F12 := fun_mk (st := sTables) l12 c12 k12
  have b12 := F12.binds (ps := ["lot", "bill"]) fun _ _ _ _ _ _ us hl => match us, hl with | [_, _], _ => rfl
  have g12 := PySem.W.mg_of X G a12
  have F13 := fun_mk (st := sHowMany) l13 c13 k13
  have b13 := F13.binds (ps := ["lot", "bill"]) fun _ _ _ _ _ _ us hl => match us, hl with | [_, _], _ => rfl
  have g13 := PySem.W.mg_of X G a13
  have F14 := fun_mk (st := sArePr) l14 c14 k14
  have b14 := F14.binds (ps := ["lot", "bill", "paper"]) fun _ _ _ _ _ _ us hl => match us, hl with | [_, _, _], _ => rfl
  have g14 := PySem.W.mg_of X G a14
  have F15 := fun_mk (st := sPrHold) l15 c15 k15
  have b15 := F15.binds (ps := ["lot", "bill", "paper"]) fun _ _ _ _ _ _ us hl => match us, hl with | [_, _, _], _ => rfl
  have g15 := PySem.W.mg_of X G a15
  have F16 := fun_mk (st := sUpright) l16 c16 k16
  have b16 := F16.binds (ps := ["row", "other"]) fun _ _ _ _ _ _ us hl => match us, hl with | [_, _], _ => rfl
  have g16 := PySem.W.mg_of X G a16
  have F17 := fun_mk (st := sPrRows) l17 c17 k17
  have b17 := F17.binds (ps := ["lot"]) fun _ _ _ _ _ _ us hl => match us, hl with | [_], _ => rfl
  have g17 := PySem.W.mg_of X G a17
  have F18 := fun_mk (st := sPrices) l18 c18 k18
  have b18 := F18.binds (ps := ["lot", "bill"]) fun _ _ _ _ _ _ us hl => match us, hl with | [_, _], _ => rfl
  have g18 := PySem.W.mg_of X G a18
  have F19 := fun_mk (st := sReHold) l19 c19 k19
  have b19 := F19.binds (ps := ["lot", "bill", "paper"]) fun _ _ _ _ _ _ us hl => match us, hl with | [_, _, _], _ => rfl
  have g19 := PySem.W.mg_of X G a19
  have F20 := fun_mk (st := sStairs) l20 c20 k20
  have b20 := F20.binds (ps := ["lot"]) fun _ _ _ _ _ _ us hl => match us, hl with | [_], _ => rfl
  have g20 := PySem.W.mg_of X G a20
  have F21 := fun_mk (st := sComing) l21 c21 k21
  have b21 := F21.binds (ps := ["stairs", "sums", "begun"]) fun _ _ _ _ _ _ us hl => match us, hl with | [_, _, _], _ => rfl
  have g21 := PySem.W.mg_of X G a21
  have F22 := fun_mk (st := sWhole) l22 c22 k22
  have b22 := F22.binds (ps := ["stairs"]) fun _ _ _ _ _ _ us hl => match us, hl with | [_], _ => rfl
  have g22 := PySem.W.mg_of X G a22
  have F23 := fun_mk (st := sLeastNone) l23 c23 k23
  have b23 := F23.binds (ps := ["number"]) fun _ _ _ _ _ _ us hl => match us, hl with | [_], _ => rfl
  have g23 := PySem.W.mg_of X G a23
  have F24 := fun_mk (st := sByParts) l24 c24 k24
  have b24 := F24.binds (ps := ["stairs", "bill"]) fun _ _ _ _ _ _ us hl => match us, hl with | [_, _], _ => rfl
  have g24 := PySem.W.mg_of X G a24
  have F25 := fun_mk (st := sReBeside) l25 c25 k25
  have b25 := F25.binds (ps := ["stairs", "bill"]) fun _ _ _ _ _ _ us hl => match us, hl with | [_, _], _ => rfl
  have g25 := PySem.W.mg_of X G a25
  have F26 := fun_mk (st := sRests) l26 c26 k26
  have b26 := F26.binds (ps := ["lot", "bill"]) fun _ _ _ _ _ _ us hl => match us, hl with | [_, _], _ => rfl
  have g26 := PySem.W.mg_of X G a26
  have F27 := fun_mk (st := sFeed) l27 c27 k27
  have b27 := F27.binds (ps := ["_law_script"]) fun _ _ _ _ _ _ us hl => match us, hl with | [_], _ => rfl
  have g27 := PySem.W.mg_of X G a27
  have F28 := fun_mk (st := sDraw) l28 c28 k28
  have b28 := F28.binds (ps := ["_law_feed_here", "_law_many"]) fun _ _ _ _ _ _ us hl => match us, hl with | [_, _], _ => rfl
  have g28 := PySem.W.mg_of X G a28
  have F29 := fun_mk (st := sPick) l29 c29 k29
  have b29 := F29.binds (ps := ["_law_feed_here", "_law_row"]) fun _ _ _ _ _ _ us hl => match us, hl with | [_, _], _ => rfl
  have g29 := PySem.W.mg_of X G a29
  have F30 := fun_mk (st := sGreat) l30 c30 k30
  have b30 := F30.binds (ps := ["_law_feed_here"]) fun _ _ _ _ _ _ us hl => match us, hl with | [_], _ => rfl
  have g30 := PySem.W.mg_of X G a30
  have F31 := fun_mk (st := sHold) l31 c31 k31
  have b31 := F31.binds (ps := ["_law_feed_here", "_law_goods", "_law_most"]) fun _ _ _ _ _ _ us hl => match us, hl with | [_, _, _], _ => rfl
  have g31 := PySem.W.mg_of X G a31
  have F32 := fun_mk (st := sLot) l32 c32 k32
  have b32 := F32.binds (ps := ["_law_feed_here", "_law_goods", "_law_kinds", "_law_most"]) fun _ _ _ _ _ _ us hl => match us, hl with | [_, _, _, _], _ => rfl
  have g32 := PySem.W.mg_of X G a32
  have F33 := fun_mk (st := sTimes) l33 c33 k33
  have b33 := F33.binds (ps := ["_law_row", "_law_many"]) fun _ _ _ _ _ _ us hl => match us, hl with | [_, _], _ => rfl
  have g33 := PySem.W.mg_of X G a33
  have FLe : FunD K "less" "less" (defArgs sLess) (defBody sLess) (defScope sLess) [.int 1] [] fLe (PySem.W.fnOf "less" "less" (defArgs sLess) (defBody sLess) (defScope sLess) (.ref TLe) kVLe dcLe pmLe anLe cdLe ctLe) :=
    ⟨⟨ocLe, odLe, .ref TLe, kVLe, dcLe, pmLe, anLe, cdLe, ctLe, slLe, rfl, lLe, cLe, .inr ⟨by simp, TLe, _, [.int 1 tkLe], nTLe, rfl, lTLe, rfl, .cons ⟨_, rfl⟩ .nil⟩, .inl rfl⟩, kLe⟩
  obtain ⟨dsLe, rdLe, bLe⟩ := FLe.binds1 (ps := ["row", "other", "times"]) 2 0 (by simp) rfl (fun T kV doc pm an cdv ct us its h1 h2 => by
    match us, its, h1, h2 with
    | [u0, u1], [k1], _, _ => exact ⟨_, rfl, rfl⟩)
  obtain ⟨ttLe, edLe⟩ : ∃ t, dsLe = [.int 1 t] := by
    cases rdLe with
    | cons r t =>
      cases t
      obtain ⟨q, rfl⟩ := r
      exact ⟨q, rfl⟩
  subst edLe
  obtain ⟨dzLe, rzLe, bzLe⟩ := FLe.binds1 (ps := ["row", "other", "times"]) 3 1 (by simp) rfl (fun T kV doc pm an cdv ct us its h1 h2 => by
    match us, its, h1, h2 with
    | [u0, u1, u2], [k1], _, _ => exact ⟨_, rfl, rfl⟩)
  have ezLe : dzLe = [] := by
    cases rzLe
    rfl
  subst ezLe
  have FW := fun_mk (st := sOneAt) lW cW kW
  have bW := FW.binds (ps := ["rows", "place"]) fun _ _ _ _ _ _ us hl => match us, hl with | [_, _], _ => rfl
  have gW := PySem.W.mg_of X G aW
  have FL := fun_mk (st := sLaw) lL cdL kL
  have FI1 := fun_mk (st := sBillInit) lI1 cI1 kI1
  have bI1 := FI1.binds (ps := ["self", "good"]) fun _ _ _ _ _ _ us hl => match us, hl with | [_, _], _ => rfl
  have ox1 : OexC K C1 := ⟨⟨nm1, q1, N1, bs1, _, sn1, sub1, ab1, col1, dd1, m01, m11, m21, m31, m51, xL1, (show PySem.HandSPX.refsVE [.type "ValueError", .type "Exception", .type "BaseException", .type "object"] = true by decide +kernel)⟩, sa1, eC1, tC1, kC1⟩
  have kk1 : Cls2 K C1 "good" := ⟨ox1, nW1, nF1⟩
  have B : Bl mg := ⟨PySem.W.mg_none_of X G z_len, PySem.W.mg_none_of X G z_list, PySem.W.mg_none_of X G z_tuple, PySem.W.mg_none_of X G z_dict, PySem.W.mg_none_of X G z_str, PySem.W.mg_none_of X G z_int, PySem.W.mg_none_of X G z_bool, PySem.W.mg_none_of X G z_isinstance, PySem.W.mg_none_of X G z_all, PySem.W.mg_none_of X G z_range, PySem.W.mg_none_of X G z_sum, PySem.W.mg_none_of X G z_min, PySem.W.mg_none_of X G z_max, PySem.W.mg_none_of X G z_enumerate⟩
  have M : Consts mg := ⟨⟨_, PySem.W.mg_of X G v6⟩, ⟨_, PySem.W.mg_of X G v5⟩, ⟨_, PySem.W.mg_of X G v3⟩⟩
  refine ⟨PySem.W.fnOf "law" "law" (defArgs sLaw) (defBody sLaw) (defScope sLaw) .none kVL dcL pmL anL cdvL ctL, [(ccW, PW)], spLaw K PW, fun p hp => ?_, fun p hp => ?_, fun p hp => ?_, fun s u => .of_eq rfl, fun H a ns hl _ hH hS => ⟨a, ns, rfl, hS, hl, fun p hp => ?_, fun _ => rfl⟩, fun base KB GB TB => ?_⟩
  · rw [List.mem_singleton.mp hp]; exact hTabW
  · rw [List.mem_singleton.mp hp]; exact nPW
  · rw [List.mem_singleton.mp hp]; exact PySem.W.codeHd_of_K X hdW
  · rw [List.mem_singleton.mp hp]; exact TabS.nil (hH (ccW, PW) List.mem_cons_self)
  · have Tb := TB (ccW, PW) List.mem_cons_self
    have bad1 : BadTxt l.prog w K mg base "BadBill" C1 "good" "bad bill" := ⟨kk1, PySem.W.mg_of X G aC1, fI1, _, aI1, tI1, ok_billInit FI1 kk1, bI1⟩
    have cDraw : Cal l.prog w K mg base CX0 1 "_law_draw" ["_law_feed_here", "_law_many"] spDraw := ⟨⟨f28, _, ok_draw F28 B.len, g28, k28, b28⟩⟩
    have cPick : Cal l.prog w K mg base CX0 2 "_law_pick" ["_law_feed_here", "_law_row"] spPick := ⟨⟨f29, _, ok_pick F29 B.len cDraw, g29, k29, b29⟩⟩
    have cHold : Cal l.prog w K mg base CX0 2 "_law_hold" ["_law_feed_here", "_law_goods", "_law_most"] spHold := ⟨⟨f31, _, ok_hold F31 B cDraw, g31, k31, b31⟩⟩
    have cLot : Cal l.prog w K mg base CX0 3 "_law_lot" ["_law_feed_here", "_law_goods", "_law_kinds", "_law_most"] spLot := ⟨⟨f32, _, ok_lot F32 B cDraw cHold, g32, k32, b32⟩⟩
    have cIH : Cal l.prog w K mg base CX0 1 "is_hold" ["hold", "goods"] spIsHold := ⟨⟨f0, _, ok_isHold F0 B M, g0, k0, b0⟩⟩
    have cLk : Cal l.prog w K mg base CX0 2 "look_lot" ["lot"] spLook0 := ⟨⟨f1, _, ok_look0 F1 B M cIH, g1, k1, b1⟩⟩
    have cGo : Cal l.prog w K mg base CX0 3 "goods_of" ["lot"] spGoods0 := ⟨⟨f2, _, ok_goods0 F2 B cLk, g2, k2, b2⟩⟩
    have cFi : Cal l.prog w K mg base CX0 1 "first_wrong" ["row", "many"] (spFirst K) := ⟨⟨f3, _, ok_first F3 B ⟨_, PySem.W.mg_of X G v30⟩, g3, k3, b3⟩⟩
    have cLB : Cal l.prog w K mg base (L2.CX l.prog w) 4 "look_bill" ["lot", "bill"] (spLookBillR K C1) := ⟨⟨f4, _, ok_lookBillR F4 bad1 cFi cGo, g4, k4, b4⟩⟩
    have cUn : Cal l.prog w K mg base CX0 1 "unit" ["place", "many"] spUnit := ⟨⟨f5, _, ok_unit F5, g5, k5, b5⟩⟩
    have cWe : Cal l.prog w K mg base CX0 1 "weighed" ["row", "other"] spWeigh := ⟨⟨f7, _, ok_weigh F7 B (PySem.W.mg_none_of X G z_zip), g7, k7, b7⟩⟩
    have cOp : Cal l.prog w K mg base CX0 1 "opposite" ["row"] spOpp := ⟨⟨f6, _, ok_opp F6 B, g6, k6, b6⟩⟩
    have cAr : Cal l.prog w K mg base CX0 2 "are_prices" ["lot", "bill", "paper"] spArePr := ⟨⟨f14, _, ok_arePr F14 B cWe, g14, k14, b14⟩⟩
    have cUp : Cal l.prog w K mg base CX0 1 "upright" ["row", "other"] spUp := ⟨⟨f16, _, ok_up F16, g16, k16, b16⟩⟩
    have cPR : Cal l.prog w K mg base CX0 4 "price_rows" ["lot"] spPrRows := ⟨⟨f17, _, ok_prRows F17 B ⟨_, PySem.W.mg_of X G v3⟩ cGo cUn cUp cOp, g17, k17, b17⟩⟩
    have cPs : Cal l.prog w K mg base (L2.CX l.prog w) 5 "prices" ["lot", "bill"] (spPrices C1) := ⟨⟨f18, _, ok_prices F18 cLB cAr cPR, g18, k18, b18⟩⟩
    have cLe : CalLess l.prog w K mg base := ⟨fLe, _, ok_less FLe B (PySem.W.mg_none_of X G z_zip), PySem.W.mg_of X G aLe, kLe, bzLe⟩
    have cLs : CalLessS l.prog w K mg base := ⟨fLe, _, ttLe, ok_lessS FLe B (PySem.W.mg_none_of X G z_zip), PySem.W.mg_of X G aLe, kLe, bLe⟩
    have hTw : ∀ p ∈ [(PW, qW)], p.1 = PW → p.2 = qW := fun p hp e => by
      rw [List.mem_singleton.mp hp]
    have cOA : Cal l.prog w K mg base CX0 5 "with_one_at" ["rows", "place"] (spOneAt [(PW, qW)]) := ⟨⟨fW, _, ok_oneAt List.mem_cons_self hTw lW cW Tb B (PySem.W.mg_none_of X G z_sorted) (PySem.W.mg_none_of X G z_abs) cLe, gW, kW, bW⟩⟩
    have cSt : Cal l.prog w K mg base CX0 6 "stairs_of" ["lot"] (spStairs [(PW, qW)]) := ⟨⟨f20, _, ok_stairs F20 B cGo cOA, g20, k20, b20⟩⟩
    have cWo : Cal l.prog w K mg base CX0 1 "whole_of" ["stairs"] spWhole := ⟨⟨f22, _, ok_whole F22 (PySem.W.mg_none_of X G z_abs), g22, k22, b22⟩⟩
    have cLn : Cal l.prog w K mg base CX0 1 "least_none" ["number"] spLeast := ⟨⟨f23, _, ok_least F23, g23, k23, b23⟩⟩
    have cCo : Cal l.prog w K mg base CX0 2 "row_coming_to" ["stairs", "sums", "begun"] (spComing K) := ⟨⟨f21, _, ok_coming F21 B (PySem.W.mg_none_of X G z_reversed) cWe, g21, k21, b21⟩⟩
    have cPa : Cal l.prog w K mg base CX0 3 "rests_by_parts" ["stairs", "bill"] spParts := ⟨⟨f24, _, ok_parts F24 B cWo cUn cCo cWe, g24, k24, b24⟩⟩
    have cBe : Cal l.prog w K mg base CX0 3 "rests_beside" ["stairs", "bill"] spBeside := ⟨⟨f25, _, ok_beside F25 B cWo cUn cCo cWe cLn, g25, k25, b25⟩⟩
    have cF0 : Cal l.prog w K mg base CX0 1 "first_wrong" ["row", "many"] spFirst0 := ⟨⟨f3, _, ok_first0 F3 B ⟨_, PySem.W.mg_of X G v30⟩, g3, k3, b3⟩⟩
    have cL0 : Cal l.prog w K mg base CX0 4 "look_bill" ["lot", "bill"] spLookBill0 := ⟨⟨f4, _, ok_lookBill0 F4 cF0 cGo, g4, k4, b4⟩⟩
    have cBx : Cal l.prog w K mg base CX0 1 "look_box" ["bill"] spBox0 := ⟨⟨f8, _, ok_box0 F8 ⟨_, PySem.W.mg_of X G v4000⟩, g8, k8, b8⟩⟩
    have cBo : Cal l.prog w K mg base CX0 5 "look_both" ["lot", "bill"] spBoth0 := ⟨⟨f9, _, ok_both0 F9 cL0 cBx, g9, k9, b9⟩⟩
    have cCe : Cal l.prog w K mg base CX0 1 "cells_of" ["bill"] spCells := ⟨⟨f10, _, ok_cells F10 B, g10, k10, b10⟩⟩
    have cOM : Cal l.prog w K mg base CX0 2 "with_one_more" ["cells", "table", "hold"] spOneMore := ⟨⟨f11, _, ok_oneMore F11 cLs, g11, k11, b11⟩⟩
    have cTa : Cal l.prog w K mg base CX0 3 "tables_of" ["lot", "bill"] spTables := ⟨⟨f12, _, ok_tables F12 B (PySem.W.mg_none_of X G z_reversed) cCe cOM, g12, k12, b12⟩⟩
    have T : Txt l.prog w K mg base C1 PW := {
        B := B
        feed := ⟨⟨f27, _, ok_feed F27 B.list, g27, k27, b27⟩⟩
        draw := cDraw
        great := ⟨⟨f30, _, ok_great F30 cDraw cPick, g30, k30, b30⟩⟩
        lot := cLot
        ti := ⟨⟨f33, _, ok_times F33 B, g33, k33, b33⟩⟩
        pr := cPs
        ph := ⟨⟨f15, _, ok_prHold F15 cLB cAr, g15, k15, b15⟩⟩
        re := ⟨⟨f26, _, ok_rests F26 cLB cSt cPa cBe, g26, k26, b26⟩⟩
        rh := ⟨⟨f19, _, ok_reHold F19 B cLB cWe, g19, k19, b19⟩⟩
        hm := ⟨⟨f13, _, ok_howMany F13 cBo cTa, g13, k13, b13⟩⟩ }
    exact ok_law FL T
end HL

open PySem PySem.W PyProof.Rows
set_option maxHeartbeats 0 in
theorem PySem.Challenge.cw_hamperlot_k62_whole_bills_many_times_ove_holds : PySem.Challenge.rw_hamperlot_k62_whole_bills_many_times_ove.Holds := by
  w_on; o_law; k_head; (case hw => w_witness2)
  k_fill
  refine LamX.walk_ofTs (l := PySem.Challenge.rw_hamperlot_k62_whole_bills_many_times_ove) (n := 63) (k := 9) (x := "_law_script") (CX := fun _ => L2.CX0) rfl (by decide) rfl ⟨rfl, by decide, by decide⟩ (fun w h Y => PySem.W.km_in_of Y) ?F (fun _ _ _ _ _ h => h)
  case F =>
    intro w mg fa h Y KX G hmg
    refine' HL.all_mk KX G hmg (PySem.W.km_tabs_of Y _ (List.mem_cons_self))  ?a0 ?l0 ?c0 ?k0 ?a1 ?l1 ?c1 ?k1 ?a2 ?l2 ?c2 ?k2 ?a3 ?l3 ?c3 ?k3 ?a4 ?l4 ?c4 ?k4 ?a5 ?l5 ?c5 ?k5 ?a6 ?l6 ?c6 ?k6 ?a7 ?l7 ?c7 ?k7 ?a8 ?l8 ?c8 ?k8 ?a9 ?l9 ?c9 ?k9 ?a10 ?l10 ?c10 ?k10 ?a11 ?l11 ?c11 ?k11 ?a12 ?l12 ?c12 ?k12 ?a13 ?l13 ?c13 ?k13 ?a14 ?l14 ?c14 ?k14 ?a15 ?l15 ?c15 ?k15 ?a16 ?l16 ?c16 ?k16 ?a17 ?l17 ?c17 ?k17 ?a18 ?l18 ?c18 ?k18 ?a19 ?l19 ?c19 ?k19 ?a20 ?l20 ?c20 ?k20 ?a21 ?l21 ?c21 ?k21 ?a22 ?l22 ?c22 ?k22 ?a23 ?l23 ?c23 ?k23 ?a24 ?l24 ?c24 ?k24 ?a25 ?l25 ?c25 ?k25 ?a26 ?l26 ?c26 ?k26 ?a27 ?l27 ?c27 ?k27 ?a28 ?l28 ?c28 ?k28 ?a29 ?l29 ?c29 ?k29 ?a30 ?l30 ?c30 ?k30 ?a31 ?l31 ?c31 ?k31 ?a32 ?l32 ?c32 ?k32 ?a33 ?l33 ?c33 ?k33 ?aLe ?lLe ?cLe ?kLe ?lTLe ?aW ?lW ?cW ?kW ?nPW ?hdW ?aL ?lL ?cdL ?kL ?aC1 ?xL1 ?sa1 ?ga1 ?gg1 ?nW1 ?nF1 ?aI1 ?tI1 ?lI1 ?cI1 ?kI1 ?kC1 ?eC1 ?tC1 ?hC1 ?iC1 ?v6 ?v5 ?v3 ?v30 ?v4000 ?z_len ?z_list ?z_tuple ?z_dict ?z_str ?z_int ?z_bool ?z_isinstance ?z_all ?z_range ?z_sum ?z_min ?z_max ?z_enumerate ?z_zip ?z_sorted ?z_abs ?z_reversed
    (case a0 => first | k_is | rfl)
    (case l0 => first | k_is | rfl)
    (case c0 => first | k_is | rfl)
    (case k0 => first | k_is | rfl)
    (case a1 => first | k_is | rfl)
    (case l1 => first | k_is | rfl)
    (case c1 => first | k_is | rfl)
    (case k1 => first | k_is | rfl)
    (case a2 => first | k_is | rfl)
    (case l2 => first | k_is | rfl)
    (case c2 => first | k_is | rfl)
    (case k2 => first | k_is | rfl)
    (case a3 => first | k_is | rfl)
    (case l3 => first | k_is | rfl)
    (case c3 => first | k_is | rfl)
    (case k3 => first | k_is | rfl)
    (case a4 => first | k_is | rfl)
    (case l4 => first | k_is | rfl)
    (case c4 => first | k_is | rfl)
    (case k4 => first | k_is | rfl)
    (case a5 => first | k_is | rfl)
    (case l5 => first | k_is | rfl)
    (case c5 => first | k_is | rfl)
    (case k5 => first | k_is | rfl)
    (case a6 => first | k_is | rfl)
    (case l6 => first | k_is | rfl)
    (case c6 => first | k_is | rfl)
    (case k6 => first | k_is | rfl)
    (case a7 => first | k_is | rfl)
    (case l7 => first | k_is | rfl)
    (case c7 => first | k_is | rfl)
    (case k7 => first | k_is | rfl)
    (case a8 => first | k_is | rfl)
    (case l8 => first | k_is | rfl)
    (case c8 => first | k_is | rfl)
    (case k8 => first | k_is | rfl)
    (case a9 => first | k_is | rfl)
    (case l9 => first | k_is | rfl)
    (case c9 => first | k_is | rfl)
    (case k9 => first | k_is | rfl)
    (case a10 => first | k_is | rfl)
    (case l10 => first | k_is | rfl)
    (case c10 => first | k_is | rfl)
    (case k10 => first | k_is | rfl)
    (case a11 => first | k_is | rfl)
    (case l11 => first | k_is | rfl)
    (case c11 => first | k_is | rfl)
    (case k11 => first | k_is | rfl)
    (case a12 => first | k_is | rfl)
    (case l12 => first | k_is | rfl)
    (case c12 => first | k_is | rfl)
    (case k12 => first | k_is | rfl)
    (case a13 => first | k_is | rfl)
    (case l13 => first | k_is | rfl)
    (case c13 => first | k_is | rfl)
    (case k13 => first | k_is | rfl)
    (case a14 => first | k_is | rfl)
    (case l14 => first | k_is | rfl)
    (case c14 => first | k_is | rfl)
    (case k14 => first | k_is | rfl)
    (case a15 => first | k_is | rfl)
    (case l15 => first | k_is | rfl)
    (case c15 => first | k_is | rfl)
    (case k15 => first | k_is | rfl)
    (case a16 => first | k_is | rfl)
    (case l16 => first | k_is | rfl)
    (case c16 => first | k_is | rfl)
    (case k16 => first | k_is | rfl)
    (case a17 => first | k_is | rfl)
    (case l17 => first | k_is | rfl)
    (case c17 => first | k_is | rfl)
    (case k17 => first | k_is | rfl)
    (case a18 => first | k_is | rfl)
    (case l18 => first | k_is | rfl)
    (case c18 => first | k_is | rfl)
    (case k18 => first | k_is | rfl)
    (case a19 => first | k_is | rfl)
    (case l19 => first | k_is | rfl)
    (case c19 => first | k_is | rfl)
    (case k19 => first | k_is | rfl)
    (case a20 => first | k_is | rfl)
    (case l20 => first | k_is | rfl)
    (case c20 => first | k_is | rfl)
    (case k20 => first | k_is | rfl)
    (case a21 => first | k_is | rfl)
    (case l21 => first | k_is | rfl)
    (case c21 => first | k_is | rfl)
    (case k21 => first | k_is | rfl)
    (case a22 => first | k_is | rfl)
    (case l22 => first | k_is | rfl)
    (case c22 => first | k_is | rfl)
    (case k22 => first | k_is | rfl)
    (case a23 => first | k_is | rfl)
    (case l23 => first | k_is | rfl)
    (case c23 => first | k_is | rfl)
    (case k23 => first | k_is | rfl)
    (case a24 => first | k_is | rfl)
    (case l24 => first | k_is | rfl)
    (case c24 => first | k_is | rfl)
    (case k24 => first | k_is | rfl)
    (case a25 => first | k_is | rfl)
    (case l25 => first | k_is | rfl)
    (case c25 => first | k_is | rfl)
    (case k25 => first | k_is | rfl)
    (case a26 => first | k_is | rfl)
    (case l26 => first | k_is | rfl)
    (case c26 => first | k_is | rfl)
    (case k26 => first | k_is | rfl)
    (case a27 => first | k_is | rfl)
    (case l27 => first | k_is | rfl)
    (case c27 => first | k_is | rfl)
    (case k27 => first | k_is | rfl)
    (case a28 => first | k_is | rfl)
    (case l28 => first | k_is | rfl)
    (case c28 => first | k_is | rfl)
    (case k28 => first | k_is | rfl)
    (case a29 => first | k_is | rfl)
    (case l29 => first | k_is | rfl)
    (case c29 => first | k_is | rfl)
    (case k29 => first | k_is | rfl)
    (case a30 => first | k_is | rfl)
    (case l30 => first | k_is | rfl)
    (case c30 => first | k_is | rfl)
    (case k30 => first | k_is | rfl)
    (case a31 => first | k_is | rfl)
    (case l31 => first | k_is | rfl)
    (case c31 => first | k_is | rfl)
    (case k31 => first | k_is | rfl)
    (case a32 => first | k_is | rfl)
    (case l32 => first | k_is | rfl)
    (case c32 => first | k_is | rfl)
    (case k32 => first | k_is | rfl)
    (case a33 => first | k_is | rfl)
    (case l33 => first | k_is | rfl)
    (case c33 => first | k_is | rfl)
    (case k33 => first | k_is | rfl)
    (case aLe => first | k_is | rfl)
    (case lLe => first | k_is | rfl)
    (case cLe => first | k_is | rfl)
    (case kLe => first | k_is | rfl)
    (case lTLe => first | k_is | rfl)
    (case aW => first | k_is | rfl)
    (case lW => first | k_is | rfl)
    (case cW => first | k_is | rfl)
    (case kW => first | k_is | rfl)
    (case nPW => first | k_is | rfl)
    (case hdW => first | k_is | rfl)
    (case aL => first | k_is | rfl)
    (case lL => first | k_is | rfl)
    (case cdL => first | k_is | rfl)
    (case kL => first | k_is | rfl)
    (case aC1 => first | k_is | rfl)
    (case xL1 => first | k_is | rfl)
    (case sa1 => first | k_is | rfl)
    (case ga1 => first | k_is | rfl)
    (case gg1 => first | k_is | rfl)
    (case nW1 => first | k_is | rfl)
    (case nF1 => first | k_is | rfl)
    (case aI1 => first | k_is | rfl)
    (case tI1 => first | k_is | rfl)
    (case lI1 => first | k_is | rfl)
    (case cI1 => first | k_is | rfl)
    (case kI1 => first | k_is | rfl)
    (case kC1 => first | k_is | rfl)
    (case eC1 => first | k_is | rfl)
    (case tC1 => first | k_is | rfl)
    (case hC1 => first | k_is | rfl)
    (case iC1 => first | k_is | rfl)
    (case v6 => first | k_is | rfl)
    (case v5 => first | k_is | rfl)
    (case v3 => first | k_is | rfl)
    (case v30 => first | k_is | rfl)
    (case v4000 => first | k_is | rfl)
    (case z_len => first | k_is | rfl)
    (case z_list => first | k_is | rfl)
    (case z_tuple => first | k_is | rfl)
    (case z_dict => first | k_is | rfl)
    (case z_str => first | k_is | rfl)
    (case z_int => first | k_is | rfl)
    (case z_bool => first | k_is | rfl)
    (case z_isinstance => first | k_is | rfl)
    (case z_all => first | k_is | rfl)
    (case z_range => first | k_is | rfl)
    (case z_sum => first | k_is | rfl)
    (case z_min => first | k_is | rfl)
    (case z_max => first | k_is | rfl)
    (case z_enumerate => first | k_is | rfl)
    (case z_zip => first | k_is | rfl)
    (case z_sorted => first | k_is | rfl)
    (case z_abs => first | k_is | rfl)
    (case z_reversed => first | k_is | rfl)

