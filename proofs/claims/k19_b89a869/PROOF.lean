import PyProof.Rows.All
import Wide.All
import OpenK.AllK
import Wide.FinOn
import PySem.Challenge.RW_hamperlot_k19_whole_spanning_swaps
import HandS.ForMost
import HandS.Exc
import HandS.TryOnly
import HandS.ExcInit
import HandS.ExcField
import HandS.WordsExc
import HandS.Lambda
import HandS.EndTab
import HandS.IsInst
import HandS.TupMul
import HandS.TupAny
import HandS.Walk
import HandS.Defaults
import KE.KTupSum
import KE.DatumOrd
import KE.GoesEnum
import HandS.TryMany
import HandS.Wide
import HandS.Zip
import HandS.SortInts
import HandS.Conv
import HandS.SortRule
import HandS.Deep
import KE.SortKeyHeap
import KE.KSortKey
import KE.GoesZip
import KE.GoesMore
import HandS.Style
import KE.KEqSeq
import KE.KNestM
set_option Elab.async false
set_option linter.all false
set_option maxRecDepth 100000
set_option maxHeartbeats 4000000
/-! Rules of one's own beside the layer's: sum, max, min of a tuple of ints; enumerate of a tuple; a tuple times 1. -/
namespace HL
open PySem PySem.Spec PyProof.Rows L2
section
variable {X : Cx}
theorem tupI {pins : List (Addr × Obj)} {σ : L2.St} {H : Hp} {s : Shared} {a : Addr} {ns : List Int} (I : Inv X pins σ H s) (h : SqT X.K H a (ns.map V.int)) :
    ∃ its : List Value, IntsAre its ns ∧ s.heap.IsTuple a its.toArray := by
  obtain ⟨its, rv, ⟨o, ho, hc, n, hd⟩, _⟩ := I.tuple h
  exact ⟨its, rv.ints, o, ho, hc, n, hd⟩
/-- sum(t) -/
def rSumT (K : PySem.W.Frag) : List V → Hp → VK → Prop := fun vs H Q =>
  ∃ (a : Addr) (ns : List Int), vs = [V.ref a] ∧ SqT K H a (ns.map V.int) ∧ Q (.int ns.sum) H
theorem cr_sumT (hc : X.calm = true) : CallR X (.builtin "sum") (rSumT X.K) := by
  intro pins s σ H vs us Q I r h
  obtain ⟨a, ns, rfl, hs, q⟩ := h
  obtain ⟨its, hi, hl⟩ := tupI I hs
  rw [Vals.ref1 r]
  obtain ⟨xs, e⟩ := hi.allInts.items
  have hn : numsOf (intItems xs).toList = ns := by
    rw [← e]
    exact hi.numsOf
  rw [nums_intItems] at hn
  rw [e] at hl
  refine PySem.W.ktm_sumG (I.ok.hd hc) hl fun h' tk t' hk => ?_
  rw [preSum_eq]
  rw [List.take_of_length_le (by simp), hn]
  exact ⟨.int _, H, I.kept hk, ⟨_, rfl⟩, q⟩
theorem maxOf_le (x : Int) (xs : List Int) : PySem.W.maxOf x xs ∈ x :: xs ∧ ∀ y ∈ x :: xs, y ≤ PySem.W.maxOf x xs := by
  induction xs generalizing x with
  | nil => exact ⟨List.mem_cons_self, fun y hy => by simp at hy; subst hy; exact Int.le_refl _⟩
  | cons z zs ih =>
    have e : PySem.W.maxOf x (z :: zs) = PySem.W.maxOf (if PySem.W.DatumOrd.lt x z = true then z else x) zs := rfl
    have d : (PySem.W.DatumOrd.lt x z = true) ↔ x < z := by
      show decide (x < z) = true ↔ x < z
      exact decide_eq_true_iff
    rw [e]
    by_cases c : x < z
    · rw [if_pos (d.mpr c)]
      obtain ⟨h1, h2⟩ := ih z
      refine ⟨List.mem_cons_of_mem _ h1, fun y hy => ?_⟩
      rcases List.mem_cons.mp hy with r | r
      · have := h2 z List.mem_cons_self
        omega
      · exact h2 y r
    · rw [if_neg (fun q => c (d.mp q))]
      obtain ⟨h1, h2⟩ := ih x
      refine ⟨?_, fun y hy => ?_⟩
      · rcases List.mem_cons.mp h1 with r | r
        · rw [r]; exact List.mem_cons_self
        · exact List.mem_cons_of_mem _ (List.mem_cons_of_mem _ r)
      · rcases List.mem_cons.mp hy with r | r
        · have := h2 x List.mem_cons_self
          omega
        · rcases List.mem_cons.mp r with r | r
          · have := h2 x List.mem_cons_self
            omega
          · exact h2 y (List.mem_cons_of_mem _ r)
theorem minOf_le (x : Int) (xs : List Int) : PySem.W.minOf x xs ∈ x :: xs ∧ ∀ y ∈ x :: xs, PySem.W.minOf x xs ≤ y := by
  induction xs generalizing x with
  | nil => exact ⟨List.mem_cons_self, fun y hy => by simp at hy; subst hy; exact Int.le_refl _⟩
  | cons z zs ih =>
    have e : PySem.W.minOf x (z :: zs) = PySem.W.minOf (if PySem.W.DatumOrd.lt z x = true then z else x) zs := rfl
    have d : (PySem.W.DatumOrd.lt z x = true) ↔ z < x := by
      show decide (z < x) = true ↔ z < x
      exact decide_eq_true_iff
    rw [e]
    by_cases c : z < x
    · rw [if_pos (d.mpr c)]
      obtain ⟨h1, h2⟩ := ih z
      refine ⟨List.mem_cons_of_mem _ h1, fun y hy => ?_⟩
      rcases List.mem_cons.mp hy with r | r
      · have := h2 z List.mem_cons_self
        omega
      · exact h2 y r
    · rw [if_neg (fun q => c (d.mp q))]
      obtain ⟨h1, h2⟩ := ih x
      refine ⟨?_, fun y hy => ?_⟩
      · rcases List.mem_cons.mp h1 with r | r
        · rw [r]; exact List.mem_cons_self
        · exact List.mem_cons_of_mem _ (List.mem_cons_of_mem _ r)
      · rcases List.mem_cons.mp hy with r | r
        · have := h2 x List.mem_cons_self
          omega
        · rcases List.mem_cons.mp r with r | r
          · have := h2 x List.mem_cons_self
            omega
          · exact h2 y (List.mem_cons_of_mem _ r)
/-- max(t), min(t) of ints -/
def rMaxT (K : PySem.W.Frag) : List V → Hp → VK → Prop := fun vs H Q =>
  ∃ (a : Addr) (ns : List Int), vs = [V.ref a] ∧ SqT K H a (ns.map V.int) ∧ 0 < ns.length ∧ ∀ m, m ∈ ns → (∀ y ∈ ns, y ≤ m) → Q (.int m) H
def rMinT (K : PySem.W.Frag) : List V → Hp → VK → Prop := fun vs H Q =>
  ∃ (a : Addr) (ns : List Int), vs = [V.ref a] ∧ SqT K H a (ns.map V.int) ∧ 0 < ns.length ∧ ∀ m, m ∈ ns → (∀ y ∈ ns, m ≤ y) → Q (.int m) H
theorem int_of_holds {h : Heap} {v : Value} {x : Int} (H : PySem.W.Holds h v x) : ∃ t, v = Value.int x t := by
  have z := PySem.W.HoldAll.toInts (PySem.W.HoldAll.cons H PySem.W.HoldAll.nil)
  cases z with
  | cons n t z => exact ⟨t, rfl⟩
theorem cr_maxT (hc : X.calm = true) (hu : X.A.units + 64 < cLine) : CallR X (.builtin "max") (rMaxT X.K) := by
  intro pins s σ H vs us Q I r h
  obtain ⟨a, ns, rfl, hs, hne, q⟩ := h
  obtain ⟨its, hi, hl⟩ := tupI I hs
  rw [Vals.ref1 r]
  cases ns with
  | nil => simp at hne
  | cons x xs =>
    refine PySem.W.max_tuple_datum (x := x) (xs := xs) (I.ok.hd hc) hl (PySem.W.HoldAll.of_ints (by simpa using hi)) (by show X.A.units + 1 + 0 < cLine; omega) fun i v h' tk _ hv hk => ?_
    obtain ⟨t, rfl⟩ := int_of_holds hv
    obtain ⟨h1, h2⟩ := maxOf_le x xs
    exact ⟨.int _, H, I.kept hk, ⟨_, rfl⟩, q _ h1 h2⟩
theorem cr_minT (hc : X.calm = true) (hu : X.A.units + 64 < cLine) : CallR X (.builtin "min") (rMinT X.K) := by
  intro pins s σ H vs us Q I r h
  obtain ⟨a, ns, rfl, hs, hne, q⟩ := h
  obtain ⟨its, hi, hl⟩ := tupI I hs
  rw [Vals.ref1 r]
  cases ns with
  | nil => simp at hne
  | cons x xs =>
    refine PySem.W.min_tuple_datum (x := x) (xs := xs) (I.ok.hd hc) hl (PySem.W.HoldAll.of_ints (by simpa using hi)) (by show X.A.units + 1 + 0 < cLine; omega) fun i v h' tk _ hv hk => ?_
    obtain ⟨t, rfl⟩ := int_of_holds hv
    obtain ⟨h1, h2⟩ := minOf_le x xs
    exact ⟨.int _, H, I.kept hk, ⟨_, rfl⟩, q _ h1 h2⟩
end
end HL

namespace HL
open PySem PySem.Spec PyProof.Rows L2
open AutoSeq1 (wpAny_loadPart')
/-! enumerate(t), t a tuple -/
abbrev oIt (t : Addr) : Obj := { cls := .type "tuple_iterator", data := .fields #[.ref t, .int 0 0] }
abbrev oEn (i : Addr) : Obj := { cls := .type "enumerate", data := .fields #[.none, .bool false, .ref i, rawInt 0, .none, .none] }
theorem meets_enumT (t : Addr) (items : Array Value) (o : Obj) (tyE : ∀ h : Heap, h.get? t = some o → h.IsTuple t items) :
    Meets (Builtin.«enumerate.__new__» ⟨[.type "enumerate", .ref t], []⟩)
      (fun _ R s => s.heap.get? t = some o ∧ R (.ok (.ret (.ref (s.heap.push (oIt t)).objs.size))) { s with heap := (s.heap.push (oIt t)).push (oEn s.heap.objs.size) }) :=
  .of_wp fun prog w A R s h => by
    obtain ⟨hp, g, d, tk, os⟩ := s
    obtain ⟨hl, h⟩ := h
    have hsub := sub_enumerate
    have hL : Heap.IsTuple (Shared.heap ⟨hp, g, d, tk, os⟩) t items := tyE _ hl
    wp_walk using wpAny_loadPart' hl
    refine wpAny_stack_any fun stk => wpAny_pure ?_
    split
    · rename_i c _ _ _ _ _
      cases (c == Value.type "enumerate") <;> (wp_walk using wpAny_loadPart' hl, wpAny_pyIter_tuple hL; exact ⟨_, rfl, h⟩)
    · wp_walk using wpAny_loadPart' hl, wpAny_pyIter_tuple hL
      exact ⟨_, rfl, h⟩
theorem call_enumT {prog : Program} {w : World} {A : Around} {E : Value → Shared → Prop} {s : Shared} {t : Addr} {items : Array Value} {Q : Value → Shared → Prop} (hL : s.heap.IsTuple t items)
    (h : ∀ h', IsEnum h' (s.heap.objs.size + 1) s.heap.objs.size 0 .none → h'.IsTupleIter s.heap.objs.size t 0 →
      (∀ b o, s.heap.get? b = some o → h'.get? b = some o) → Q (.ref (s.heap.objs.size + 1)) { s with heap := h' }) :
    wpAny (model prog w) A (call (.type "enumerate") [.ref t]) Q E s := by
  obtain ⟨o, hl, hc, n, hd⟩ := hL
  refine callType_new F.called_enumerate (by decide) (F.typeCall_enumerate_1 _) (F.newCall_enumerate_1 _) (fun obj => F.args_object_init_2 obj _) F.entry_enumerate_new
    (meets_enumT t items o fun h' e => ⟨o, e, hc, n, hd⟩) ⟨hl, ?_⟩
  have hz : (s.heap.push (oIt t)).objs.size = s.heap.objs.size + 1 := Heap.size_push ..
  show _ ∧ _
  rw [hz]
  have hen : IsEnum ((s.heap.push (oIt t)).push (oEn s.heap.objs.size)) (s.heap.objs.size + 1) s.heap.objs.size 0 .none := by
    have q := Heap.get?_push_size (s.heap.push (oIt t)) (o := oEn s.heap.objs.size) rfl
    rw [hz] at q
    exact q
  exact ⟨⟨_, hen, rfl⟩, h _ hen ⟨_, Heap.get?_push_of_some _ (Heap.get?_push_size _ rfl), rfl, rfl⟩ fun b o x => Heap.get?_push_of_some _ (Heap.get?_push_of_some _ x)⟩
theorem enum_endT {prog : Program} {w : World} {A : Around} {E : Value → Shared → Prop} {s : Shared} {e it t : Addr} {i : Nat} {items : Array Value} {old : Value} {Q : Option Value → Shared → Prop}
    (hh : A.handled = none) (hen : IsEnum s.heap e it i old) (hit : s.heap.IsTupleIter it t i) (hl : s.heap.IsTuple t items) (hx : items[i]? = none)
    (wish : ∀ h', Heap.ExtBut it s.heap h' → Q none { s with heap := h' }) : wpAny (model prog w) A (pyNext (.ref e)) Q E s := by
  have tyE : s.TypeIs (.ref e) "enumerate" := ⟨_, hen, rfl⟩
  unfold pyNext
  refine wpAny_bind (wpAny_attempt (wpAny_callSpecial?_slot (name := Str.ofString "__next__") tyE F.slot_enumerate_next (wpAny_call_entry F.slot_enumerate_next tyE F.entry_enumerate_next ?_ (F.args_enumerate_next_1 _))))
  show wpAny _ _ (field (.ref e) 2 >>= _) _ _ _
  refine wpAny_bind (wpAny_field hen rfl (x := .ref it) rfl (wpAny_bind (wpAny_nextOf_tuple_end hh hit hl hx fun h' x hen' hx' => ?_)))
  obtain ⟨o, ho, hc⟩ := hx'
  exact wpAny_bind (wpAny_isInstance (T := "StopIteration") (b := true) ⟨o, ho, hc⟩ isSubtype_stop (wpAny_pure (wish _ hen')))
/-- the tuple at a, each item in a new pair -/
def IteT (K : PySem.W.Frag) (a : Addr) : It where
  go := fun i H => ∃ (xs : List V) (x : V), SqT K H a xs ∧ xs[i]? = some x
  yld := fun i H v H' => ∃ T x, v = .ref T ∧ H T = none ∧ H' = upd H T (.tup [.int (i : Nat), x]) ∧ ∀ xs, SqT K H a xs → xs[i]? = some x
  stop := fun i H => ∃ xs : List V, SqT K H a xs ∧ xs.length ≤ i
theorem turn_enumT {P : Program} {w : World} {K : PySem.W.Frag} {elts : List Expr} {kk : Nat} {tpos : Pos} (a e it : Addr) (hai : a ≠ it) :
    Turn P w K (.Tuple elts kk tpos) (IteT K a) [e, it] e (fun i h => (∃ old, IsEnum h e it ((i : Nat) : Int) old) ∧ h.IsTupleIter it a i ∧ e ≠ it ∧ e ≠ a) where
  mem := by simp
  obj := fun i h sta b hb => by
    obtain ⟨⟨old, hen⟩, ⟨o, ho, hc, hd⟩, _⟩ := sta
    have e' : b = e ∨ b = it := by simpa using hb
    rcases e' with z | z
    · rw [z]
      exact ⟨_, hen, fun v q => nomatch q⟩
    · rw [z]
      exact ⟨o, ho, fun v q => by rw [hd] at q; cases q⟩
  keep := fun i h h' sta k => by
    obtain ⟨⟨old, hen⟩, hi, hne⟩ := sta
    exact ⟨⟨old, k e (by simp) _ hen⟩, hi.at fun o q => k it (by simp) o q, hne⟩
  item := by
    intro X hP hw hK hc i pins s σ H E I fpk sta hg
    subst hP hw hK
    obtain ⟨⟨old, hen⟩, hit, hne, hea⟩ := sta
    obtain ⟨xs, x, hq, hx⟩ := hg
    obtain ⟨its, rv, ⟨ot, hot, hct, nt, hdt⟩, hz⟩ := I.tuple hq
    have tyE : s.heap.IsTuple a its.toArray := ⟨ot, hot, hct, nt, hdt⟩
    obtain ⟨u, hu, ru⟩ := rv.get hx
    have hlt : i < its.toArray.size := by
      have := (List.getElem?_eq_some_iff.mp hu).1
      simpa using this
    have elt : e < s.heap.objs.size := Heap.lt_size hen
    have hil : it < s.heap.objs.size := by
      obtain ⟨_, q, _⟩ := hit
      exact Heap.lt_size q
    refine wpAny_pyNext_enum_itemD (Draws.tuple (A := X.A.in1) (I.ok.hd hc) it a hai its.toArray) hen ⟨hit, tyE⟩ hlt hne (by simp [hne, hea]) fun z h' tk hz' ho hit' hTn hsz kep => ?_
    have ez : z = u := by
      have q : its[i]? = some z := by simpa using hz'
      rw [hu] at q
      exact (Option.some.inj q).symm
    subst ez
    refine ⟨_, rfl, wpAny_letOwnedTupleGo_enum (s := { s with heap := h', toks := tk + 1 }) ho fun h'' hen' smb => ?_⟩
    have hT2 : h''.get? s.heap.objs.size = some { cls := .type "tuple", data := .seq #[.int i tk, z] } := (smb.2 _ (Nat.ne_of_gt elt)).trans hTn
    have new : ObjOk X.prog X.w (upd H s.heap.objs.size (.tup [.int (i : Nat), x])) h'' s.heap.objs.size (.tup [.int (i : Nat), x]) :=
      ⟨by show 2 ≤ sizeLine; decide, [.int i tk, z], .cons ⟨_, rfl⟩ (.cons ru .nil), ⟨_, hT2, rfl, _, rfl⟩⟩
    have I1 : Inv X pins σ (upd H s.heap.objs.size (.tup [.int (i : Nat), x])) { s with heap := h'', toks := tk + 1 } :=
      I.turnedNew (ch := [e, it]) (fun b ob hb q => (smb.2 b (fun z => hb (by simp [z]))).trans (kep b ob (fun z => hb (by simp [z])) (fun z => hb (by simp [z])) q)) fpk (Nat.le_refl _) new
    refine ⟨.ref s.heap.objs.size, _, I1, rfl, ⟨_, x, rfl, I.hok.fresh (Nat.le_refl _), rfl, fun ys hy => ?_⟩, ⟨⟨z, ?_⟩, hit'.1.at fun o q => (smb.2 it (Ne.symm hne)).trans q, hne, hea⟩, fun b hb => ?_⟩
    · rw [I.tuple_inj hy hq]
      exact hx
    · have eqi : ((i + 1 : Nat) : Int) = (i : Int) + 1 := by omega
      rw [eqi]
      exact hen'
    · have hb' : b < s.heap.objs.size := by
        have e' : b = e ∨ b = it := by simpa using hb
        rcases e' with z | z
        · rw [z]
          exact elt
        · rw [z]
          exact hil
      rw [upd_ne (Nat.ne_of_lt hb')]
      exact (fpk b hb).1
  done := by
    intro X hP hw hK hc i pins s σ H E I fpk sta hg
    subst hP hw hK
    obtain ⟨⟨old, hen⟩, hit, hne, hea⟩ := sta
    obtain ⟨xs, hq, hx⟩ := hg
    obtain ⟨its, rv, ⟨ot, hot, hct, nt, hdt⟩, hz⟩ := I.tuple hq
    obtain ⟨p0, p1, p2, p3, p4, p5⟩ := fpk it (by simp)
    have hl := rv.length
    refine enum_endT (I.ok.hd hc) hen hit ⟨ot, hot, hct, nt, hdt⟩ (by simp; omega) fun h' eb => ⟨rfl, I.turned (t' := s.toks) (fun b o hb q => eb b o hb q) p0 p1 p3 p4 p5⟩
  self := fun A i s Q E sta h => let ⟨⟨_, hen⟩, _⟩ := sta; wpAny_pyIter_enum hen h
def iEnumT (K : PySem.W.Frag) (ta : TA) : TI := fun σ H R => ta σ H fun vs H1 => ∃ a xs, vs = [.ref a] ∧ SqT K H1 a xs ∧ R (IteT K a) H1
theorem pi_enumT {X : Cx} {e : Expr} {ta : TA} {p pos tpos : Pos} {elts : List Expr} {kk : Nat} (hg : Gl X "enumerate") (hm : X.mg "enumerate" = none) (ha : PA X [e] ta)
    (hs : starEach [e] X.env = [(false, eval e X.env)] := by rfl) : PI X (.Tuple elts kk tpos) (.Call (.Name "enumerate" p) [e] [] pos) (iEnumT X.K ta) := by
  refine ⟨fun pins s σ H R I h => ?_⟩
  refine Call_ (ld_blt I hg hm boot_enumerate (PyProof.Rows.callWith_type1 (thn (ha.run pos pins s σ H _ I h) fun us sA ⟨vs, H1, I1, r1, q1⟩ => ?_) hs rfl))
  obtain ⟨a, xs, ex, hq, q⟩ := q1
  subst ex
  rw [Vals.ref1 r1]
  obtain ⟨its, rv, ⟨ot, hot, hct, nt, hdt⟩, hz⟩ := I1.tuple hq
  have hla : a < sA.heap.objs.size := Heap.lt_size hot
  refine call_enumT (items := its.toArray) ⟨ot, hot, hct, nt, hdt⟩ fun h' hen hit kep => wpAny_pyIter_enum hen ?_
  have JB : Inv X pins σ H1 { sA with heap := h' } := I1.kept (t' := sA.toks) kep
  refine ⟨sA.heap.objs.size + 1, [sA.heap.objs.size + 1, sA.heap.objs.size], _, _, H1, rfl, JB, turn_enumT a (sA.heap.objs.size + 1) sA.heap.objs.size (Nat.ne_of_lt hla),
    ⟨⟨.none, hen⟩, hit, Nat.succ_ne_self _, Nat.ne_of_gt (Nat.lt_succ_of_lt hla)⟩, fun b hb => ?_, q⟩
  have e' : b = sA.heap.objs.size + 1 ∨ b = sA.heap.objs.size := by simpa using hb
  have hle : sA.heap.objs.size ≤ b := by
    rcases e' with z | z
    · rw [z]
      exact Nat.le_add_right _ _
    · rw [z]
      exact Nat.le_refl _
  exact I1.fpOk hle (I1.hok.fresh hle)
end HL

namespace HL
open PySem PySem.Spec PyProof.Rows L2
open AutoSeq1 (wpAny_loadPart')
/-! t * k, k from 1 on: once is the tuple itself -/
theorem tuple_mul1 (l : Addr) (items : Array Value) (n : Nat) (dd : Option Addr) (sl : Array (Option Value)) (u : Tok) :
    Meets (Builtin.«tuple.__mul__» ⟨[.ref l, .int 1 u], []⟩)
      (fun _ R s => s.heap.get? l = some { cls := .type "tuple", dict := dd, data := .seq items n, slots := sl } ∧ R (.ok (.ret (.ref l))) s) :=
  .of_wp fun prog w A R s h => by
    obtain ⟨hp, g, d, tk, os⟩ := s
    obtain ⟨hl, h⟩ := h
    have f1 := AutoSeq1.idx_int
    have ht : Shared.TypeIs ⟨hp, g, d, tk, os⟩ (.ref l) "tuple" := ⟨_, hl, rfl⟩
    wp_walk using wpAny_loadPart' hl
    repeat (first
      | (refine wpAny_ite_false (by decide) ?_; wp_walk using wpAny_loadPart' hl)
      | (refine wpAny_ite_true (by cases items.isEmpty <;> decide) ?_; wp_walk using wpAny_loadPart' hl)
      | (refine wpAny_typeOf ht ?_; wp_walk using wpAny_loadPart' hl)
      | (refine wpAny_bind (wpAny_typeOf ht ?_); wp_walk using wpAny_loadPart' hl))
    exact ⟨_, rfl, h⟩
def rRepA (K : PySem.W.Frag) : R2 := fun x y H Q => ∃ l k xs, x = .ref l ∧ y = .int k ∧ SqT K H l xs ∧ xs ≠ [] ∧ 1 ≤ k ∧ k ≤ 1000 ∧ xs.length ≤ 1000 ∧
  (k = 1 → Q (.ref l) H) ∧ (k ≠ 1 → ∀ p, H p = none → Q (.ref p) (upd H p (.tup (List.replicate k.toNat xs).flatten)))
theorem op_repA {X : Cx} : OpR X (binaryOp .Mult) (rRepA X.K) := by
  intro pins s σ H x y v u Q I rx ry h
  obtain ⟨l, k, xs, rfl, rfl, hT, hne, h1, h2, hz, q1, q2⟩ := h
  by_cases hk : k = 1
  · subst hk
    have rx' := rx
    cases rx
    obtain ⟨t, rfl⟩ := ry
    obtain ⟨its, r, ⟨⟨cl, dd, dat, sl⟩, ho, hc, n, hd⟩, _⟩ := I.tuple hT
    simp only at hc hd
    subst hc hd
    exact wpAny_binaryOp_repeat_ref (T := "tuple") (U := "int") (by decide) ⟨_, ho, rfl⟩ (fun s' => typeIs_int s' 1 t) noFill_tuple_mul F.fills_int_mul F.slot_int_rmul repeat_tuple F.slot_int_index.lookup
      (call_meets F.slot_int_rmul (typeIs_int s 1 t) F.entry_int_rmul (F.args_int_rmul_2 _ _) (int_rmul_tuple 1 t l its.toArray n dd sl)
        ⟨ho, rfl, ⟨_, ho, rfl⟩, call_meets F.slot_tuple_mul ⟨_, ho, rfl⟩ F.entry_tuple_mul (F.args_tuple_mul_2 _ _) (tuple_mul1 l its.toArray n dd sl t) ⟨ho, ⟨.ref l, H, I, rfl, q1 rfl⟩⟩⟩)
  · exact op_repT pins s σ H _ _ v u Q I rx ry ⟨l, k, xs, rfl, rfl, hT, hne, by omega, h2, hz, q2 hk⟩
end HL

namespace HL
open PySem PySem.Spec PyProof.Rows L2
/-! several except clauses, each with a name -/
/-- behind a suite the name's slot is empty -/
abbrev offE (i : Nat) (D : Ends) : Ends := { nx := fun σ' H' => D.nx (σ'.set i none) H', rt := D.rt, bk := fun σ' H' => D.bk (σ'.set i none) H', ct := fun σ' H' => D.ct (σ'.set i none) H' }
def wManyA (K : PySem.W.Frag) (i : Nat) (Wout : WX) (D : Ends) : List (Value × (Addr → Value → Option Addr → TS)) → WX
  | [] => Wout
  | (c, ts) :: r => fun cls d σ H => ∃ b, PySem.W.exmOne K cls c = some b ∧ (b = true → ∀ a, H a = none → ts a cls d (offE i D) (σ.set i (some (.ref a))) H) ∧ (b = false → wManyA K i Wout D r cls d σ H)
inductive HdsA (X : Cx) (n : Str) : List ExceptHandler → List (Value × (Addr → Value → Option Addr → TS)) → Prop
  | nil : HdsA X n [] []
  | cons {x : Str} {c : Value} {ts : Addr → Value → Option Addr → TS} {b₀ : Stmt} {suite : List Stmt} {np pos' : Pos} {hds : List ExceptHandler} {l : List (Value × (Addr → Value → Option Addr → TS))} (hc : Names X x c)
      (hsu : ∀ (a : Addr) (oe : Obj) (cls : Value) (d : Option Addr) (pn : List (Addr × Obj)), Zc cls d oe → (∃ vs, oe.data = .fields vs) → PSs (X.suite a ((a, oe) :: pn)) (b₀ :: suite) (ts a cls d)) (r : HdsA X n hds l) :
      HdsA X n (.ExceptHandler (some (.Name x np)) (some n) (b₀ :: suite) pos' :: hds) ((c, ts) :: l)
section
variable {X : Cx} {n : Str} {i : Nat} {body : List Stmt} {h₀ : ExceptHandler} {hds : List ExceptHandler} {l : List (Value × (Addr → Value → Option Addr → TS))} {pos : Pos} {tb : WX → TS} {Wout : WX}
theorem ps_try_manyA (hs : X.stack = X.env :: X.outer) (hf : X.env.frame = some X.env.locals) (hN : X.N.Nodup) (hi : X.N[i]? = some n) (hln : X.env.kindOf n = some .local) (tk : Takes X Wout)
    (hb : ∀ (W : WX) (pn : List (Addr × Obj)) (xe : Value → Shared → Prop), Takes (X.tr pn xe) W → PassesOwn (model X.prog X.w) X.A X.env xe → PSs (X.tr pn xe) body (tb W)) (hh : HdsA X n (h₀ :: hds) l) :
    PS X (.Try body (h₀ :: hds) [] [] pos) (fun D σ H => tb (wManyA X.K i Wout D l) D σ H) := by
  refine ⟨fun pins s σ H D I hTB => ?_⟩
  have okI := I.ok
  have frA : X.A.frames = some (X.env :: X.outer) := by rw [okI.frames, hs]
  have locN : Loc X.env.scope n := .inl hln
  refine wpAny_Try_except (wpAny_mono ((hb (wManyA X.K i Wout D l) (X.pn ++ pins) (fun e sa => wpAny (model X.prog X.w) X.A (noteFrame e X.env) (fun _ sb => wpAny (model X.prog X.w) X.A (setFlight e none) (fun _ sc =>
    wpAny (model X.prog X.w) X.A (handleBy e X.env (h₀ :: hds)) (SP X pins D) X.xe sc) X.xe sb) X.xe sa) (fun u s' xx => ?_) PassesOwn.looking).run [] s σ H D (I.toTry _) hTB) (fun f sq hsp => ?_) (fun e sq he => he))
  · obtain ⟨a, B, sI, pins', σ', H', cls, d, rfl, J', nb, up, sky, na, os, ag, wsh⟩ := xx
    have J : Inv X pins σ' H' sI := J'.ofTry okI
    have skyE : Sky B (X.env :: X.outer) a (Zc cls d) X.env.locals s'.heap := by rw [← hs]; exact sky
    show wpAny (model X.prog X.w) X.A (noteFrame (.ref a) X.env) _ _ _
    refine Sky.land Zc.steady frA hf skyE fun hC flC upC => ?_
    have JC : Inv X pins σ' H' { s' with heap := hC } := J.landed nb flC.1 (up.trans upC) os ag
    obtain ⟨oC, vC, heC, hzC, hdC⟩ := flC.there
    have notFr : a ∉ frs (X.env :: X.outer) := fun hm => by
      obtain ⟨_, o', e', hnf⟩ := flC.2.2.1.mem hm
      rw [heC] at e'
      cases e'
      exact hnf _ hdC
    have nL : a ≠ X.env.locals := fun z => notFr (List.mem_filterMap.mpr ⟨X.env, List.mem_cons_self, by rw [hf, z]⟩)
    have nF : a ∉ X.fs := fun hm => by
      obtain ⟨e, he, q⟩ := List.mem_filterMap.mp hm
      exact notFr (List.mem_filterMap.mpr ⟨e, List.mem_cons_of_mem _ he, q⟩)
    have SC := JC.suite heC hdC na nL nF
    have go : ∀ {hd2 : List ExceptHandler} {l2 : List (Value × (Addr → Value → Option Addr → TS))}, HdsA X n hd2 l2 → wManyA X.K i Wout D l2 cls d σ' H' → wpAny (model X.prog X.w) X.A (handleBy (.ref a) X.env hd2) (SP X pins D) X.xe { s' with heap := hC } := by
      intro hd2 l2 hk
      induction hk with
      | nil =>
        intro wn
        refine wpAny_handleBy_nil ?_
        obtain ⟨k1, k2, k3, oe, vs, T, oT, ts', he, hz, hd, h1, hr⟩ := id flC
        unfold PySem.passOn
        refine wpAny_bind (wpAny_field he hd h1 ?_)
        rw [if_neg (show ¬ ((Value.ref T == Value.none) = true) from by simp)]
        have fin : wpAny (model X.prog X.w) X.A (setFlight (.ref a) X.env.frame) (fun _ sd => wpAny (model X.prog X.w) X.A (throw (.ref a) : Sem Flow) (SP X pins D) X.xe sd) X.xe { s' with heap := hC } := by
          rw [hf]
          refine HandSPX.setFlight_upZ flC fun hD hhD upD => wpAny_throw (tk _ _ ?_)
          exact ⟨a, B, sI, pins, σ', H', cls, d, rfl, J, nb, (up.trans upC).trans upD, .inr (.inr (by rw [hs]; exact hhD)), na, os, ag, wn⟩
        first
          | exact wpAny_bind (wpAny_pure (wpAny_bind fin))
          | exact wpAny_bind fin
      | @cons x c ts b₀ suite np pos' hd3 l3 hc hsu r ih =>
        intro wn
        obtain ⟨b, hb1, hyes, hno⟩ := wn
        refine wpAny_handleBy_cons (codeAny_handlers_test ?_) (by intro q; cases q)
        have LT : PySem.W.Looks (model X.prog X.w) hC (typeOf (.ref a)) cls := fun A Q E s k q => wpAny_typeOf_ref (k _ _ heC) (by rw [hzC.1]; exact q)
        have LM := PySem.W.exm_one (M := model X.prog X.w) (JC.kIn) LT hb1
        have look : ∀ {Q : Value → Shared → Prop} {E : Value → Shared → Prop}, Q c { s' with heap := hC } → wpAny (model X.prog X.w) (X.A.mark (some (.ref a))) (eval (.Name x np) X.env) Q E { s' with heap := hC } := fun {Q E} q => by
          obtain ⟨hg, hdbg, hm | ⟨hm, hv, hnn⟩⟩ := hc
          · exact ld_glob (X := X.suite a ((a, oC) :: (X.pn ++ pins))) SC hg hm q hdbg
          · exact ld_blt (X := X.suite a ((a, oC) :: (X.pn ++ pins))) SC hg hm hv q hnn hdbg
        refine look (LM.here ?_)
        cases b with
        | false =>
          show wpAny _ X.A (handleBy (.ref a) X.env hd3) _ _ _
          exact ih (hno rfl)
        | true =>
          refine codeAny_handlers_suite_as (HandSPX.lands_againZ flC fun hD flD upD => ?_)
          have JD : Inv X pins σ' H' { s' with heap := hD } := J.landed nb flD.1 ((up.trans upC).trans upD) os ag
          obtain ⟨oD, vD, heD, hzD, hdD⟩ := flD.there
          have SD := JD.suite heD hdD na nL nF
          refine store_ok (X := X.suite a ((a, oD) :: (X.pn ++ pins))) (v := .ref a) SD hN hi locN rfl (fun sE SE => ?_) (.inr hln)
          refine wpAny_mono ((hsu a oD cls d (X.pn ++ pins) hzD ⟨_, hdD⟩).run [] sE _ H' _ SE (hyes rfl a na)) (fun f sG hsp => ?_) (fun _ _ z => False.elim z)
          have off : ∀ {σG : L2.St} {HG : Hp} {Q : Shared → Prop}, Inv (X.suite a ((a, oD) :: (X.pn ++ pins))) [] σG HG sG → (∀ sH, Inv X pins (σG.set i none) HG sH → Q sH) →
              wpAny (model X.prog X.w) X.A (do bindName X.env n .none; unbindBehindTheSuite X.env n pos') (fun _ sH => Q sH) X.xe sG := fun {σG HG Q} SG hq => gone_ok (SG.unsuite okI) hN hi hln hq
          cases f with
          | ret u =>
            obtain ⟨vG, σG, HG, SG, rG, qG⟩ := hsp
            exact off SG fun sH JH => ⟨_, _, _, JH, rG, qG⟩
          | next =>
            obtain ⟨σG, HG, SG, qG⟩ := hsp
            exact off SG fun sH JH => ⟨_, _, JH, qG⟩
          | brk =>
            obtain ⟨σG, HG, SG, qG⟩ := hsp
            exact off SG fun sH JH => ⟨_, _, JH, qG⟩
          | cont =>
            obtain ⟨σG, HG, SG, qG⟩ := hsp
            exact off SG fun sH JH => ⟨_, _, JH, qG⟩
    exact go hh wsh
  · cases f with
    | ret u =>
      obtain ⟨v, σ', H', J', r, q⟩ := hsp
      exact ⟨v, σ', H', J'.ofTry okI, r, q⟩
    | next =>
      obtain ⟨σ', H', J', q⟩ := hsp
      exact wpAny_execs_nil ⟨σ', H', J'.ofTry okI, q⟩
    | brk =>
      obtain ⟨σ', H', J', q⟩ := hsp
      exact ⟨σ', H', J'.ofTry okI, q⟩
    | cont =>
      obtain ⟨σ', H', J', q⟩ := hsp
      exact ⟨σ', H', J'.ofTry okI, q⟩
end
end HL

namespace HL
open PySem PySem.Spec PyProof.Rows L2
open LamX (CodeO Tabs TabB ExtN LamS lamEnv lamCx lam_start2 lam_make2 run_ofS tLam)
/-! what a def got is asked, its own slots known where that raises -/
/-- the asking def's context, entered at s -/
abbrev gCx (X : Cx) (Ng : List Str) (q : Str) (sg : Scope) (g : Addr) (cd : Value) (s : Shared) (H : Hp) : Cx := cxOf C8.CX0 X.prog X.w X.K X.mg X.base Ng q sg g cd X.A X.stack s H C8.E0
/-- the lambda that was made -/
abbrev lamO (X : Cx) (ps : Arguments) (b : Expr) (sc : Scope) (pm : Value) (c' : Addr) (ct : Value) : Obj := PySem.W.kla_obj "<lambda>" (X.env.qual ++ "<lambda>") ps b sc (cloFrom X.env.cells sc.names []) pm c' ct
theorem act_at {X : Cx} {pins : List (Addr × Obj)} {σ : L2.St} {H : Hp} {s : Shared} {Ng : List Str} {q : Str} {sg : Scope} {g f c' : Addr} {cd pm ct : Value} {ps : Arguments} {b : Expr} {sc : Scope} {k i : Nat} {a : Str} {pn : List (Addr × Obj)} {xe : Value → Shared → Prop} {W : WX} {E : XK} {tb : TE} {p1 p2 : Pos} {σ0 : L2.St}
    (I : Inv X pins σ H s) (L : LamS X.env.scope sc) (hf : s.heap.get? f = some (lamO X ps b sc pm c' ct)) (hn : H f = none) (hfr : f ∉ frs X.stack)
    (hb : bindArgs (PySem.W.kla_fn "<lambda>" (X.env.qual ++ "<lambda>") ps b sc (cloFrom X.env.cells sc.names []) pm (.ref c') ct) ⟨[], []⟩ = pure [])
    (tk : Takes ((gCx X Ng q sg g cd s H).tr pn xe) W) (hW : ∀ cls d H', E cls d H' → W cls d σ0 H') (hr : Room (k + 1) (X.A.deeper (envOfC q sg s.heap.objs.size g cd)))
    (hbody : ∀ (A : Around) (o : List Env) (s : Shared) (H : Hp), Room k (A.deeper (lamEnv X sc s.heap.objs.size f c')) → PE (lamCx X A o s H E sc f c') b tb)
    (hN : Ng[i]? = some a) (hv : Vis sg a) (d1 : (a == ("__debug__" : Str)) = false) (d2 : (a == ("__classdict__" : Str)) = false) :
    PE ((gCx X Ng q sg g cd s H).tr pn xe) (.Call (.Name a p1) [] [] p2) (fun σZ HZ Q => σZ = σ0 ∧ σZ[i]? = some (some (.ref f)) ∧ HZ c' = some (CodeO c' (X.env.qual ++ "<lambda>")) ∧ tb σ HZ Q) := by
  refine ⟨fun pz sz σz hz Qz J ⟨eσ, h1, h2, h3⟩ => ?_⟩
  have nm := (pe_var (pos := p1) (i := i) hN hv d1 d2).run pz sz σz hz (fun v H1 => v = .ref f ∧ H1 = hz) J ⟨_, h1, rfl, rfl⟩
  refine wpAny_Call_Name_kw (thn nm ?_)
  rintro u s1 ⟨v, H1, J1, r1, ⟨ev, eh⟩⟩
  subst ev
  rw [eh] at J1
  obtain rfl : u = Value.ref f := r1
  have o1 : s1.heap.get? f = some (lamO X ps b sc pm c' ct) := J1.base.keep f _ hf hn hfr (fun y => List.not_mem_nil (show f ∈ ([] : List Addr) from y))
  have go : codeAny (model X.prog X.w) (X.A.deeper (envOfC q sg s.heap.objs.size g cd)) (.call (.ref f) ⟨[], []⟩) (CR (L2.CX X.prog X.w) (envOfC q sg s.heap.objs.size g cd :: X.stack) X.prog X.w hz s1 Qz E) s1 := by
    obtain ⟨⟨oc, vs, t, ho, hd, hc⟩, _, _⟩ := J1.hok c' _ h2
    refine PySem.W.kla_callFunE hr.depth o1 rfl L.co L.gen rfl ⟨c', oc, vs, t, rfl, ho, hd, hc⟩ ?_
    rw [hb]
    refine wpAny_pure (wpAny_newFunctionEnv (fun y hy => (L.own y hy).2) (fun y hy => absurd hy (by simp)) (fun h1' hns hsb => ⟨J1.nolimit.fresh _ hsb, ?_⟩) L.kind)
    show codeAny _ _ (.expr b (lamEnv X sc s1.heap.objs.size f c')) _ _
    have st : Inv (lamCx X (X.A.deeper (envOfC q sg s.heap.objs.size g cd)) (envOfC q sg s.heap.objs.size g cd :: X.stack) s1 hz E sc f c') [] σ hz { s1 with heap := h1', toks := s1.toks + ([] : List (Str × Value)).length } :=
      lam_start2 I L J1.env0 hr.hd J1.base hns (fun b' o' e' => hsb.extBut b' o' (Nat.ne_of_lt (Heap.lt_size e')) (Heap.get?_push_of_some _ e'))
    refine PySem.W.kla_codeExpr (wpAny_mono ((hbody _ _ s1 hz (hr.deeper _)).run [] _ _ hz Qz st h3) ?_ (fun _ _ x => x))
    rintro v' s' ⟨w', H', J', rv, qv⟩
    exact ⟨w', H', J'.os, J'.bare, J'.base, J'.hok, rv, qv⟩
  refine PySem.W.callWith_F0 ⟨_, _, _, _, o1⟩ (wpAny_call (codeAny_mono go ?_))
  intro r s' hq
  cases r with
  | error e =>
    refine tk e s' (XE.of_call J1 (fun cls d H' hE => ?_) hq)
    rw [eσ]
    exact hW cls d H' hE
  | ok fl =>
    cases fl with
    | ret u => exact J1.after hq
    | next => cases hq
    | brk => cases hq
    | cont => cases hq
/-- the def that asks: σ0 its slots where it asks -/
def AsksOf (X : Cx) (Ng : List Str) (x : Str) (sg : Scope) (g : Addr) (cd : Value) (bg : List Stmt) (a : Str) (q : Str) (TT : (XK → Hp → VK → Prop) → Hp → VK → Prop) : Prop :=
  ∀ (f c' : Addr) (s : Shared) (H : Hp) (Q : VK) (tl : XK → Hp → VK → Prop),
    (∀ (σ0 : L2.St) (W : WX) (pn : List (Addr × Obj)) (xe : Value → Shared → Prop) (E : XK) (p1 p2 : Pos), Takes ((gCx X Ng x sg g cd s H).tr pn xe) W → (∀ cls d H', E cls d H' → W cls d σ0 H') →
      PE ((gCx X Ng x sg g cd s H).tr pn xe) (.Call (.Name a p1) [] [] p2) (fun σZ HZ Q => σZ = σ0 ∧ σZ[0]? = some (some (.ref f)) ∧ HZ c' = some (CodeO c' q) ∧ tl E HZ Q)) →
    H c' = some (CodeO c' q) → TT tl H Q → ∃ t, PSs (gCx X Ng x sg g cd s H).nox bg t ∧ t { nx := fun _ H' => Q .non H', rt := Q } (L2.start Ng [.ref f]) H
theorem pe_askcall {X : Cx} {T : List (Addr × Str)} {TT : (XK → Hp → VK → Prop) → Hp → VK → Prop} {x a : Str} {g c P : Addr} {k : Nat} {pg : Arguments} {bg : List Stmt} {sg : Scope} {dV kV doc pm cdv ct oc : Value} {an od : Option Addr} {osl : Array (Option Value)} {Ng : List Str}
    {ps : Arguments} {b : Expr} {sc : Scope} {t : XK → TE} {p lp pos : Pos} (hg : Gl X x) (hm : X.mg x = some (.ref g)) (hk : PySem.W.keepIn X.K (.ref g) = true)
    (lk : X.K.lookup g = some ⟨oc, od, .func (PySem.W.fnOf x x pg bg sg dV kV doc pm an cdv ct), osl⟩) (hcg : PySem.W.codeIn X.K cdv x = true) (hbi : L2.Binds X.K (PySem.W.fnOf x x pg bg sg dV kV doc pm an cdv ct) [a] []) (Sg : FnScope Ng [a] sg) (hN : Ng[0]? = some a) (hv : Vis sg a)
    (hG : AsksOf X Ng x sg g cdv bg a (X.env.qual ++ "<lambda>") TT) (TB : TabB X.base X.mg c P) (hcode : X.env.code = .ref c) (hT : (P, X.env.qual ++ "<lambda>") ∈ T) (hu : ∀ p ∈ T, p.1 = P → p.2 = X.env.qual ++ "<lambda>") (hr : Room (k + 2) X.A) (L : LamS X.env.scope sc) (hdef : defaultsOf ps X.env = ([], []))
    (hb : ∀ (q : Str) (cl : List (Str × Addr)) (pm cv ctv : Value), bindArgs (PySem.W.kla_fn "<lambda>" q ps b sc cl pm cv ctv) ⟨[], []⟩ = pure [])
    (hbody : ∀ (A : Around) (o : List Env) (s : Shared) (H : Hp) (E : XK) (f c' : Addr), Room k (A.deeper (lamEnv X sc s.heap.objs.size f c')) → PE (lamCx X A o s H E sc f c') b (t E))
    (d0 : (x == ("__debug__" : Str)) = false := by decide) (d1 : (a == ("__debug__" : Str)) = false := by decide) (d2 : (a == ("__classdict__" : Str)) = false := by decide) :
    PE X (.Call (.Name x p) [.Lambda ps b sc lp] [] pos) (tLam T TT t) := by
  refine ⟨fun pins s σ H Q I ⟨hTt, h⟩ => wpAny_Call_Name_kw (ld_glob I hg hm (PySem.W.callWith_K (h₀ := X.base) I.ok.mod.kin hk ?_ (by rfl) (by rfl)) d0)⟩
  show wpAny _ _ (spliced ((false, eval (.Lambda ps b sc lp) X.env) :: backTo pos (starEach [] X.env))) _ _ s
  refine Calls.spliced_cons (lam_make2 I TB hcode hT hu hTt hdef (L.has I.ok) fun f c' pm' ctv H1 s' J eN T1 hf hfn hfr hco => Calls.spliced_nil ⟨J.kIn, ?_⟩)
  refine wpAny_call (codeAny_mono (R := CR C8.CX0 X.stack X.prog X.w H1 s' Q C8.E0) (run_ofS (N := Ng) (ps := [a]) (us := [.ref f]) (vs := [.ref f]) lk hcg Sg hr J.env0 (hbi s' [.ref f] J.kIn rfl) (.cons rfl .nil) rfl fun hr' => ?_) fun r s2 hq => ?_)
  · obtain ⟨t', ht, hq⟩ := hG f c' s' H1 Q (fun E H' Q' => t E σ H' Q') (fun σ0 W pn xe E p1 p2 tk hW => act_at (i := 0) J L hf hfn hfr (hb _ _ _ _ _) tk hW hr' (fun A o s H hr2 => hbody A o s H E f c' hr2) hN hv d1 d2) hco (h H1 eN T1)
    exact ⟨t', ht.nox, hq⟩
  · cases r with
    | error e => exact (show False from hq).elim
    | ok fl =>
      cases fl with
      | ret u => exact J.after hq
      | next => cases hq
      | brk => cases hq
      | cont => cases hq
end HL

/-! own exceptions over any built-in base, their __init__ walked as a def; made with any count of arguments -/
namespace HL
open PySem PySem.Spec PyProof.Rows L2
open PySem.Builtin PySem.Builtin.ObjectAttr PySem.HandSPX
section
variable {prog : Program} {w : World} {A : Around} {R : Result → Shared → Prop} {hp : Heap} {g : Array GenState} {d : Drawn} {t : Nat} {os : OsState} {K : PySem.W.Frag} {f : Str} {tk : Tok} {v : Value} {x C : Addr} {fv : Array Value} {cd : ClassData}
/-- what a store on an instance looks up, told of its class alone -/
structure Mro (cd : ClassData) : Prop where
  pass : ∀ self, refuseLoop self "__setattr__" cd.mro = pure ()
  obj : cd.mro.contains (.type "object") = true
  ne : cd.mro.isEmpty = false
  hd : cd.hasDict = true
theorem osaG {o : Obj} {od : Option Obj} (X : K.In hp) (I : PySem.W.InstAt hp x o C od) (hcd : PySem.W.clsIn K C = some cd) (M : Mro cd) (ha : PySem.W.findIn K (.ref C) f = some none)
    (hq : wpAny (model prog w) A.in1 (storeInOwnDict (.ref x) (.ref C) (.str f tk) f v false) (fun r s' => match r with | .done fl => R (.ok fl) s' | .again c' => c'.quiet = true ∧ codeAny (model prog w) A c' R s') (fun e s' => R (.error e) s') ⟨hp, g, d, t, os⟩) :
    codeAny (model prog w) A (.call (.builtin "object.__setattr__") ⟨[.ref x, .str f tk, v], []⟩) R ⟨hp, g, d, t, os⟩ := by
  have SF := F.store_object
  have sub : PySem.W.Looks (model prog w) hp (isInstance (.ref x) (.type "object")) true := I.type.andThen (PySem.W.looks_mroIn X (by unfold PySem.W.mroIn; rw [hcd, Option.bind_some, if_neg (by rw [M.ne]; decide), M.obj]))
  refine codeAny_call_builtin SF.slot.plain SF.entry (@PySem.W.check_slot (model prog w) _ _ ⟨hp, g, d, t, os⟩ "object.__setattr__" "object" "__setattr__" (.ref x) [.str f tk, v] [] _ SF.kind SF.split sub (SF.args (.ref x) (.str f tk) v) ?_)
  have hmr : PySem.W.Looks (model prog w) hp (mroOf (.ref C)) cd.mro := (PySem.W.looks_clsIn X hcd).andThen .now
  have L3 : PySem.W.Looks (model prog w) hp (storeTaker? none) none := .now
  rw [PySem.W.osa_eq, refuse_eq]
  refine wpAny_bind (wpAny_bind (I.type.at (wpAny_bind (hmr.at ?_))))
  rw [M.pass]
  refine wpAny_pure (wpAny_bind (I.type.at (wpAny_bind ((PySem.W.looks_findIn X ha).at (wpAny_bind (L3.at ?_))))))
  exact hq
/-- the first field of an instance -/
theorem store1 (X : K.In hp) (hx : hp.get? x = some { cls := .ref C, data := .fields fv }) (hcd : PySem.W.clsIn K C = some cd) (M : Mro cd) (ha : PySem.W.findIn K (.ref C) f = some none)
    (hq : ∀ h' tk' dx, (∀ b o, b ≠ x → hp.get? b = some o → h'.get? b = some o) → hp.objs.size ≤ dx → dx ≠ x → h'.get? x = some { cls := .ref C, dict := some dx, data := .fields fv } → h'.Ns1 dx (fun y => if y = f then some v else none) → R (.ok (.ret .none)) ⟨h', g, d, tk', os⟩) :
    codeAny (model prog w) A (.call (.builtin "object.__setattr__") ⟨[.ref x, .str f tk, v], []⟩) R ⟨hp, g, d, t, os⟩ := by
  have hxs : x ≠ hp.objs.size := Nat.ne_of_lt (Heap.lt_size hx)
  refine osaG (od := none) X ⟨hx, rfl, rfl, trivial⟩ hcd M ha ?_
  have hc : PySem.W.Looks (model prog w) hp (classData C) cd := PySem.W.looks_clsIn X hcd
  obtain ⟨_, _, _, hdt⟩ := M
  obtain ⟨nm, bs, mro, ns, qn, hd, sn, sb, ab, col, del⟩ := cd
  cases hdt
  unfold storeInOwnDict ownDictForStores
  repeat (first | with_reducible refine store_in_new ?_ ?_ | with_reducible refine wpAny_loadPart_at hx ?_ | with_reducible refine hc.at ?_ | wp_step)
  · have nothing : ∀ e ∈ (#[] : Array DictEntry).toList, False := fun e he => by simp at he
    exact ⟨_, #[], _, (Heap.get?_update_ne _ _ _ _ hxs.symm).trans (Heap.get?_push_at rfl rfl),
      rfl, fun e he => absurd he (by simp), fun _ => rfl⟩
  · intro h' tk' hn' hs
    refine hq h' tk' hp.objs.size ?_ (Nat.le_refl _) hxs.symm ?_ hn'
    · intro b o hb ho
      rw [hs.2 b (Nat.ne_of_lt (Heap.lt_size ho)), Heap.get?_update_ne _ _ _ _ hb]
      exact Heap.get?_push_of_some _ ho
    · rw [hs.2 x hxs]
      exact Heap.get?_update_self _ (Heap.get?_push_of_some _ hx) rfl
/-- a further field -/
theorem store2 {dx : Addr} {m0 : Str → Option Value} {nl : List Str} (X : K.In hp) (hx : hp.get? x = some { cls := .ref C, dict := some dx, data := .fields fv }) (hns : hp.Ns1 dx m0) (hw : Within m0 nl) (hz : nl.length ≤ 1000) (hcd : PySem.W.clsIn K C = some cd) (M : Mro cd) (ha : PySem.W.findIn K (.ref C) f = some none)
    (hq : ∀ h' tk', (∀ b o, b ≠ dx → hp.get? b = some o → h'.get? b = some o) → h'.Ns1 dx (fun y => if y = f then some v else m0 y) → R (.ok (.ret .none)) ⟨h', g, d, tk', os⟩) :
    codeAny (model prog w) A (.call (.builtin "object.__setattr__") ⟨[.ref x, .str f tk, v], []⟩) R ⟨hp, g, d, t, os⟩ := by
  obtain ⟨oD, _, _, hoD, _, _⟩ := hns.count hw
  refine osaG (od := some oD) X ⟨hx, rfl, rfl, hoD⟩ hcd M ha ?_
  have hc : PySem.W.Looks (model prog w) hp (classData C) cd := PySem.W.looks_clsIn X hcd
  obtain ⟨_, _, _, hdt⟩ := M
  obtain ⟨nm, bs, mro, ns, qn, hd, sn, sb, ab, col, del⟩ := cd
  cases hdt
  unfold storeInOwnDict ownDictForStores
  repeat (first | with_reducible refine PySem.OEX.store_in_old hns hw hz ?_ | with_reducible refine wpAny_loadPart_at hx ?_ | with_reducible refine hc.at ?_ | wp_step)
  exact fun h' tk' hn' hs => hq h' tk' (fun b o hb ho => by rw [hs.2 b hb]; exact ho) hn'
end
/-- what the written part says of an own class over a built-in base -/
structure OexB (K : PySem.W.Frag) (C : Addr) (nid : String) (bmB : List Value) : Prop where
  cls : ∃ nm q N bs bm sn sub ab col dd k0 k1 k2 k3 k5, K.lookup C = some (excClassObj nm q C N bs bm true sn sub ab col dd k0 k1 k2 k3 k5 nid) ∧ (∀ X : String, bm.contains (.type X) = bmB.contains (.type X)) ∧ ∀ self, refuseLoop self "__setattr__" (.ref C :: bm) = pure ()
  ob : bmB.contains (.type "object") = true
  sa : PySem.W.findIn K (.ref C) "__setattr__" = some (some (.builtin "object.__setattr__"))
  exC : PySem.W.subIn K (.ref C) (.type "BaseException") = some true
  tyC : PySem.W.typeIn K (.ref C) = some (.type "type")
  kC : PySem.W.keepIn K (.ref C) = true
theorem OexB.mro {K : PySem.W.Frag} {C : Addr} {nid : String} {bmB : List Value} (T : OexB K C nid bmB) : ∃ cd, PySem.W.clsIn K C = some cd ∧ Mro cd := by
  obtain ⟨nm, q, N, bs, bm, sn, sub, ab, col, dd, k0, k1, k2, k3, k5, hC, h1, h2⟩ := T.cls
  refine ⟨{ name := nm, bases := bs, mro := .ref C :: bm, ns := N, qualname := q, hasDict := true, slotNames := sn, subclasses := sub, abstract := ab, collection := col, hasDel := false }, by unfold PySem.W.clsIn; rw [hC] <;> rfl, h2, ?_, rfl, rfl⟩
  show (Value.ref C :: bm).contains (.type "object") = true
  rw [List.contains_cons, h1, T.ob, Bool.or_true]
section
variable {X : Cx} {nid : String} {bmB : List Value} {pins : List (Addr × Obj)} {σ : L2.St} {H : Hp} {s : Shared} {a C dx : Addr} {f : Str} {y : V} {u : Value} {fs : List (Str × V)} {Q : Unit → Shared → Prop} {E : Value → Shared → Prop} {A : Around}
theorem ostN (T : OexB X.K C nid bmB) (I : Inv X pins σ H s) (e : H a = some (exo a C none)) (hno : PySem.W.findIn X.K (.ref C) f = some none) (ry : RelV y u)
    (h : ∀ dx s', H dx = none → dx ≠ a → Inv X pins σ (upd (upd H dx (exd dx [(f, y)])) a (exo a C (some dx))) s' → Q () s') : wpAny (model X.prog X.w) A (setAttr (.ref a) f u) Q E s := by
  obtain ⟨cd, hcl, M⟩ := T.mro
  obtain ⟨t1, ho⟩ := exo_at I.hok e
  obtain ⟨hp, g, d, t, os⟩ := s
  refine PySem.W.set_plain (od := none) I.kIn ⟨ho, rfl, rfl, trivial⟩ T.sa (store1 I.kIn ho hcl M hno fun h' tk' dx k dn dne hx hn => ?_)
  have nH : H dx = none := I.hok.fresh dn
  have old : ∀ {b : Addr} {o : Obj}, hp.get? b = some o → b ≠ dx := fun {b o} q => Nat.ne_of_lt (Nat.lt_of_lt_of_le (Heap.lt_size q) dn)
  have off : ∀ {b : Addr}, H b = none → b ≠ a := fun {b} n z => by rw [z, e] at n; cases n
  have two : ∀ {b : Addr} {o : HO}, H b = some o → exo a C none ≠ o → upd (upd H dx (exd dx [(f, y)])) a (exo a C (some dx)) b = some o := fun {b o} q ne => by
    rw [upd_ne (at_ne e q ne), upd_ne (ne_of_none q nH)]
    exact q
  refine h dx _ nH dne (I.un (t' := tk') { keep := fun b o q n _ _ => k b o (off n) q, slot := fun b o q n _ _ => ⟨o.slots, k b o (off n) q⟩, free := ?fr, there := ?th, tups := fun b xs q => two q exo_tup, frzs := fun b o v q => two q exo_frz, tbls := fun b ps q => ⟨#[], by rw [two q exo_tbl]; simp⟩ } fun b o q => ?ok)
  case fr =>
    intro b o q n _
    rw [upd_ne (off n), upd_ne (old q)]
    exact n
  case th =>
    intro b o q _
    by_cases hb : b = a
    · rw [hb]
      exact ⟨_, hx⟩
    · exact ⟨o, k b o hb q⟩
  case ok =>
    by_cases hb : b = a
    · subst hb
      rw [upd_same] at q
      cases q
      exact exo_ok hx
    rw [upd_ne hb] at q
    by_cases hd : b = dx
    · subst hd
      rw [upd_same] at q
      cases q
      exact exd_ok hn (relO_put (fs := []) ry fun g => True.intro)
    rw [upd_ne hd] at q
    refine (I.hok b o q).stay (fun c v hc z => k c v ?_ z) (fun c hc => two hc exo_own) (fun c xs hc => two hc exo_tup)
    rcases hc with hc | hc
    · rw [hc]; exact hb
    · exact at_ne e hc exo_own
theorem ostO (T : OexB X.K C nid bmB) (I : Inv X pins σ H s) (e : H a = some (exo a C (some dx))) (ed : H dx = some (exd dx fs)) (hl : fs.length ≤ 900) (hno : PySem.W.findIn X.K (.ref C) f = some none) (ry : RelV y u)
    (h : ∀ s', Inv X pins σ (upd H dx (exd dx ((f, y) :: fs))) s' → Q () s') : wpAny (model X.prog X.w) A (setAttr (.ref a) f u) Q E s := by
  obtain ⟨cd, hcl, M⟩ := T.mro
  obtain ⟨t1, ho⟩ := exo_at I.hok e
  obtain ⟨mA, hns, rel⟩ := exd_at I.hok ed
  have hw := within_of rel
  obtain ⟨hp, g, d, t, os⟩ := s
  obtain ⟨oD, _, _, hoD, _, _⟩ := hns.count hw
  refine PySem.W.set_plain (od := some oD) I.kIn ⟨ho, rfl, rfl, hoD⟩ T.sa (store2 I.kIn ho hns hw (by rw [List.length_map]; omega) hcl M hno fun h' tk' k hn => ?_)
  have hd : ∃ o, h'.get? dx = some o := let ⟨o, _, _, e', _⟩ := hn; ⟨o, e'⟩
  exact h _ (I.write (t' := tk') (x := dx) (e := dx) (o := exd dx ((f, y) :: fs)) (by rw [ed]; exact True.intro) (.inl rfl) k hd (exd_ok hn (relO_put ry rel)))
end
/-! ### readings and rules -/
/-- self.f = e -/
def tOstB (K : PySem.W.Frag) (nid : String) (bmB : List Value) (f : Str) (to te : TE) : TS := fun D σ H => te σ H fun y H1 => to σ H1 fun x H2 => ∃ a C : Addr, x = .ref a ∧ OexB K C nid bmB ∧ PySem.W.findIn K (.ref C) f = some none ∧
  ((H2 a = some (exo a C none) ∧ ∀ dx, H2 dx = none → dx ≠ a → D.nx σ (upd (upd H2 dx (exd dx [(f, y)])) a (exo a C (some dx)))) ∨
    ∃ (dx : Addr) (fs : List (Str × V)), H2 a = some (exo a C (some dx)) ∧ H2 dx = some (exd dx fs) ∧ fs.length ≤ 900 ∧ D.nx σ (upd H2 dx (exd dx ((f, y) :: fs))))
section
variable {X : Cx} {nid : String} {bmB : List Value} {o e : Expr} {es : List Expr} {to te : TE} {ta : TA} {f : Str} {p p' pos : Pos}
theorem ps_ostB (ho : PE X o to) (he : PE X e te) (hs : swapsWith e (some (.Attribute o f p')) pos.line X.env = pure false := by rfl) : PS X (.Assign [.Attribute o f p'] e pos) (tOstB X.K nid bmB f to te) := by
  refine ⟨fun pins s σ H D I h => plainObj_wpAny_Assign_Attribute (thn (he.run pins s σ H _ I h) fun v s1 ⟨y, H1, I1, r1, q1⟩ => thn (ho.run pins s1 σ H1 _ I1 q1) ?_) hs⟩
  rintro u s2 ⟨x, H2, I2, r2, a, C, ex, T, hno, q⟩
  subst ex
  obtain rfl : u = Value.ref a := r2
  rcases q with ⟨ea, q⟩ | ⟨dx, fs, ea, ed, hl, q⟩
  · exact ostN T I2 ea hno r1 fun dx s' n ne J => ⟨σ, _, J, q dx n ne⟩
  · exact ostO T I2 ea ed hl hno r1 fun s' J => ⟨σ, _, J, q⟩
/-- the making, the arguments at hand -/
theorem make_at {CX : CXT} {B initId : String} {C fI : Addr} {k : Nat} {fd : FuncData} {ps : List Str} {sp : Sp} (EF : ExcBaseFacts B nid initId bmB) (T : OexB X.K C nid bmB) (iC : PySem.W.findIn X.K (.ref C) "__init__" = some (some (.ref fI))) (tI : PySem.W.typeIn X.K (.ref fI) = some (.type "function"))
    (F1 : FnOk X.prog X.w X.K X.mg X.base CX k fI fd ps sp) (hr : Room (k + 1) X.A) (hb : Binds X.K fd ps []) (hx : Passes CX X (fun _ _ _ => False)) {pins : List (Addr × Obj)} {σ : L2.St} {H1 : Hp} {s1 : Shared} {vs : List V} {us : List Value} {Q : XK} (I1 : Inv X pins σ H1 s1) (r1 : Vals vs us) (hz : vs.length ≤ 1000)
    (q1 : ∀ a, H1 a = none → sp (.ref a :: vs) (upd H1 a (exo a C none)) (fun v H2 => v = .non ∧ ∃ (d : Addr) (fs : List (Str × V)), H2 a = some (exo a C (some d)) ∧ H2 d = some (exd d fs) ∧ H1 d = none ∧ Q (.ref C) (some d) (upd (del H2 a) d (.xd fs))) (fun _ _ _ => False)) :
    wpAny (model X.prog X.w) X.A (call (.ref C) us) (MkP X pins σ Q) X.xe s1 := by
  obtain ⟨nm, q, N, bs, bm, sn, sub, ab, col, dd, k0, k1, k2, k3, k5, hC, h1, h2⟩ := T.cls
  obtain ⟨hp, g, dr, tk, os⟩ := s1
  have le : hp.objs.size ≤ hp.objs.size + 1 := Nat.le_succ _
  have hq := q1 (hp.objs.size + 1) (I1.hok.fresh le)
  have up : ∀ b o, hp.get? b = some o → ((hp.push (PySem.W.kdv_tup us)).push (excO C hp.objs.size)).get? b = some o := fun b o z => Heap.get?_push_of_some _ (Heap.get?_push_of_some _ z)
  have at1 : ((hp.push (PySem.W.kdv_tup us)).push (excO C hp.objs.size)).get? (hp.objs.size + 1) = some (excO C hp.objs.size) := by heap_get
  have I2 : Inv X pins σ (upd H1 (hp.objs.size + 1) (exo (hp.objs.size + 1) C none)) ⟨(hp.push (PySem.W.kdv_tup us)).push (excO C hp.objs.size), g, dr, tk, os⟩ := I1.laid (t' := tk) up le (exo_ok at1)
  have r2 : Vals (V.ref (hp.objs.size + 1) :: vs) (Value.ref (hp.objs.size + 1) :: us) := .cons rfl r1
  have len : (Value.ref (hp.objs.size + 1) :: us ++ []).length = ps.length := by
    rw [List.append_nil, ← r2.length]
    exact F1.len _ _ _ _ hq
  have bi := hb _ (Value.ref (hp.objs.size + 1) :: us) I2.kIn len
  rw [List.append_nil] at bi
  have small : us.length ≤ sizeLine := by
    rw [← Paired.length r1, sizeLine_eq]
    omega
  have run := F1.run _ X.stack _ _ ⟨Value.ref (hp.objs.size + 1) :: us, []⟩ (Value.ref (hp.objs.size + 1) :: us) _ _ (fun _ _ _ => False) (hr.make C us []) (I2.env0.make C us []) bi r2 hq
  refine wpAny_call (call_own EF h1 (I1.kIn _ _ hC) (PySem.W.looks_findIn I1.kIn iC) (fun self => PySem.W.bind_fn I1.kIn self tI) small (codeAny_mono run ?_))
  rintro (er | fl) s' hq'
  · exact hx pins σ _ _ er s' I2 hq'
  · cases fl with
    | ret u =>
      obtain ⟨v, H2, os2, bare2, un2, hok2, rv, ev, d, fs, ea, ed, hd1, q2⟩ := hq'
      subst ev
      exact ⟨rv, mk_end (raises_own T.exC T.tyC) I1 le up un2 hok2 os2 bare2 ea ed hd1 q2⟩
    | next => cases hq'
    | brk => cases hq'
    | cont => cases hq'
def tMkB (C : Addr) (sp : Sp) (ta : TA) : L2.St → Hp → XK → Prop := fun σ H Q => ta σ H fun vs H1 => vs.length ≤ 1000 ∧ ∀ a, H1 a = none → sp (.ref a :: vs) (upd H1 a (exo a C none))
  (fun v H2 => v = .non ∧ ∃ (d : Addr) (fs : List (Str × V)), H2 a = some (exo a C (some d)) ∧ H2 d = some (exd d fs) ∧ H1 d = none ∧ Q (.ref C) (some d) (upd (del H2 a) d (.xd fs))) (fun _ _ _ => False)
theorem pmk_oexB {CX : CXT} {B initId : String} {x : Str} {C fI : Addr} {k : Nat} {fd : FuncData} {ps : List Str} {sp : Sp} (EF : ExcBaseFacts B nid initId bmB) (T : OexB X.K C nid bmB) (iC : PySem.W.findIn X.K (.ref C) "__init__" = some (some (.ref fI))) (tI : PySem.W.typeIn X.K (.ref fI) = some (.type "function"))
    (F1 : FnOk X.prog X.w X.K X.mg X.base CX k fI fd ps sp) (hr : Room (k + 1) X.A) (hb : Binds X.K fd ps []) (hx : Passes CX X (fun _ _ _ => False)) (hg : Gl X x) (hm : X.mg x = some (.ref C)) (ha : PA X (e :: es) ta)
    (hdb : (x == ("__debug__" : Str)) = false := by decide) (he : starEach (e :: es) X.env = (false, eval e X.env) :: starEach es X.env := by rfl) (hpl : (backTo pos (starEach es X.env)).any (·.1) = false := by rfl) :
    PMk X (.Call (.Name x p) (e :: es) [] pos) (tMkB C sp ta) := fun pins s σ H Q I h =>
  wpAny_Call_Name_kw (ld_glob I hg hm (PySem.W.callWith_K (h₀ := X.base) I.ok.mod.kin T.kC (thn (ha.run pos pins s σ H _ I h) fun us s1 ⟨vs, H1, I1, r1, hz, q1⟩ => ⟨I1.kIn, make_at EF T iC tI F1 hr hb hx I1 r1 hz q1⟩) he hpl) hdb)
theorem pmk_oexB0 {CX : CXT} {B initId : String} {x : Str} {C fI : Addr} {k : Nat} {fd : FuncData} {ps : List Str} {sp : Sp} (EF : ExcBaseFacts B nid initId bmB) (T : OexB X.K C nid bmB) (iC : PySem.W.findIn X.K (.ref C) "__init__" = some (some (.ref fI))) (tI : PySem.W.typeIn X.K (.ref fI) = some (.type "function"))
    (F1 : FnOk X.prog X.w X.K X.mg X.base CX k fI fd ps sp) (hr : Room (k + 1) X.A) (hb : Binds X.K fd ps []) (hx : Passes CX X (fun _ _ _ => False)) (hg : Gl X x) (hm : X.mg x = some (.ref C)) (hdb : (x == ("__debug__" : Str)) = false := by decide) :
    PMk X (.Call (.Name x p) [] [] pos) (tMkB C sp tNil) := fun pins s σ H Q I h =>
  wpAny_Call_Name_kw (ld_glob I hg hm (PySem.W.callWith_K0 I.kIn T.kC (make_at EF T iC tI F1 hr hb hx I .nil (Nat.zero_le _) h.2)) hdb)
end
end HL

namespace HL
open PySem PySem.Spec PyProof.Rows L2
/-! sorted(t), t a tuple of ints -/
def rSortedTup (K : PySem.W.Frag) : List V → Hp → VK → Prop := fun vs H Q => ∃ (a : Addr) (ns : List Int), vs = [V.ref a] ∧ SqT K H a (ns.map V.int) ∧ ∀ (ns' : List Int) (p : Addr), ns'.Perm ns → ns'.Pairwise (· ≤ ·) → H p = none → Q (.ref p) (upd H p (.lst (ns'.map V.int)))
theorem cr_sortedTup {X : Cx} : CallR X (.builtin "sorted") (rSortedTup X.K) := by
  intro pins s σ H vs us Q I r h
  obtain ⟨a, ns, rfl, hs, q⟩ := h
  obtain ⟨its, rv, ⟨o, ho, hc, n, hd⟩, hz⟩ := I.tuple hs
  rw [Vals.ref1 r]
  have hi := rv.ints
  have hz' : its.length ≤ sizeLine := by rw [← rv.length]; exact hz
  refine Calls.call_function_entry kind_sorted plain_sorted entry_sorted (args_sorted1 _) ?_
  unfold Builtin.«sorted»
  refine wpAny_bind (m := checkCount "sorted" 1 1 _) (wpAny_pure (wpAny_bind (wpAny_collect_seq (T := "tuple") a (.inr rfl) ho hc hd (fun h1 k1 => ?_) (by rw [List.size_toArray]; exact hz'))))
  rw [List.toList_toArray]
  refine wpAny_bind (wpAny_newList ?_ hz')
  have at1 : (h1.push (seqObj "list" its.toArray 0)).get? h1.objs.size = some (seqObj "list" its.toArray 0) := Heap.get?_push_size _ rfl
  have I1 := I.kept (t' := s.toks) k1
  refine wpAny_bind (wpAny_holding (wpAny_call_entry slot_list_sort ⟨_, at1, rfl⟩ entry_list_sort (SrtO.list_sort_ord SrtO.swo_int at1 hz' (fun h2 => SrtO.ints_sortable hi h2) fun out p1 p2 => ⟨_, rfl, ?_⟩) (args_list_sort _)))
  refine wpAny_pure ⟨_, rfl, ?_⟩
  obtain ⟨j1, j2, j3⟩ := SrtO.ints_out hi p1 p2
  obtain ⟨ep, he⟩ := sortedHeap_at (vs := its) (out := out.toArray) at1
  have hl : ((out.map SrtO.iv).map V.int).length ≤ sizeLine := by
    rw [List.length_map, j2.length_eq]
    rw [List.length_map] at hz
    exact hz
  refine ⟨.ref _, upd H h1.objs.size (.lst ((out.map SrtO.iv).map V.int)), I1.laid (t' := s.toks) (fun b o e => ?_) (Nat.le_refl _) ⟨hl, out, ep, vals_of_ints j1, he⟩, rfl, q _ _ j2 j3 (I1.hok.fresh (Nat.le_refl _))⟩
  have lb : b < h1.objs.size := Heap.lt_size e
  rw [sortedHeap_old (Nat.ne_of_lt lb) (by rw [Heap.size_push]; exact Nat.lt_succ_of_lt lb)]
  exact Heap.get?_push_of_some _ e
end HL

namespace HL
open PySem PySem.Spec PyProof.Rows L2
open AutoSeq1 (wpAny_loadPart')
/-! t * k, k from 0 on: no times is a new tuple of nothing -/
theorem tuple_mul0 (l : Addr) (items : Array Value) (n : Nat) (dd : Option Addr) (sl : Array (Option Value)) (u : Tok) (he : items.isEmpty = false) :
    Meets (Builtin.«tuple.__mul__» ⟨[.ref l, .int 0 u], []⟩)
      (fun _ R s => s.heap.get? l = some { cls := .type "tuple", dict := dd, data := .seq items n, slots := sl } ∧ R (.ok (.ret (.ref s.heap.objs.size))) { s with heap := s.heap.push { cls := .type "tuple", data := .seq #[] }, toks := s.toks }) :=
  .of_wp fun prog w A R s h => by
    obtain ⟨hp, g, d, tk, os⟩ := s
    obtain ⟨hl, h⟩ := h
    have f1 := AutoSeq1.idx_int
    have e1 : ¬ ((items.isEmpty || ((0 : Int) == 1)) = true) := by rw [he]; decide
    have e2 : (decide ((0 : Int) ≤ 0) || items.isEmpty) = true := by rw [he]; decide
    have e3 : ¬ ((#[] : Array Value).size > sizeLine) := by show ¬ (0 > sizeLine); decide
    wp_walk using wpAny_loadPart' hl
    repeat (first
      | (refine wpAny_ite_false (by decide) ?_; wp_walk using wpAny_loadPart' hl)
      | (refine wpAny_ite_false (decide_eq_false e1) ?_; wp_walk using wpAny_loadPart' hl)
      | (refine wpAny_ite_true (decide_eq_true e2) ?_; wp_walk using wpAny_loadPart' hl)
      | (refine wpAny_ite_true (by decide) ?_; wp_walk using wpAny_loadPart' hl)
      | (refine wpAny_ite_false (decide_eq_false e3) ?_; wp_walk using wpAny_loadPart' hl))
    exact ⟨_, rfl, h⟩
/-- no times, or as often as rRepA lets -/
def rRepN (K : PySem.W.Frag) : R2 := fun x y H Q => (∃ l xs, x = .ref l ∧ y = .int 0 ∧ SqT K H l xs ∧ xs ≠ [] ∧ ∀ p, H p = none → Q (.ref p) (upd H p (.tup []))) ∨ rRepA K x y H Q
theorem op_repN {X : Cx} : OpR X (binaryOp .Mult) (rRepN X.K) := by
  intro pins s σ H x y v u Q I rx ry h
  rcases h with ⟨l, xs, rfl, rfl, hT, hne, q⟩ | h
  · cases rx
    obtain ⟨t, rfl⟩ := ry
    obtain ⟨its, r, ⟨⟨cl, dd, dat, sl⟩, ho, hc, n, hd⟩, _⟩ := I.tuple hT
    simp only at hc hd
    subst hc hd
    have he : its.toArray.isEmpty = false := by
      cases its with
      | nil => exact absurd (List.eq_nil_of_length_eq_zero r.length) hne
      | cons a b => rfl
    refine wpAny_binaryOp_repeat_ref (T := "tuple") (U := "int") (by decide) ⟨_, ho, rfl⟩ (fun s' => typeIs_int s' 0 t) noFill_tuple_mul F.fills_int_mul F.slot_int_rmul repeat_tuple F.slot_int_index.lookup
      (call_meets F.slot_int_rmul (typeIs_int s 0 t) F.entry_int_rmul (F.args_int_rmul_2 _ _) (int_rmul_tuple 0 t l its.toArray n dd sl)
        ⟨ho, rfl, ⟨_, ho, rfl⟩, call_meets F.slot_tuple_mul ⟨_, ho, rfl⟩ F.entry_tuple_mul (F.args_tuple_mul_2 _ _) (tuple_mul0 l its.toArray n dd sl t he) ⟨ho, ?_⟩⟩)
    exact ⟨.ref s.heap.objs.size, _, I.laid (t' := s.toks) (o := .tup []) (fun b ob e => Heap.get?_push_of_some _ e) (Nat.le_refl _) ⟨Nat.zero_le _, [], .nil, IsTup.new _ _⟩, rfl, q _ (I.hok.fresh (Nat.le_refl _))⟩
  · exact op_repA pins s σ H x y v u Q I rx ry h
end HL

namespace HL
open PySem PySem.Spec PyProof.Rows L2
/-! {t: v}, t a tuple of ints and texts -/
def tDisp1T (tk tv : TE) : TE := fun σ H Q => ∀ p, H p = none → tk σ (upd H p (.dT [])) fun x H1 => tv σ H1 fun y H2 => ∃ (k : List Key) (b : Addr), x = .ref b ∧ H2 b = some (.tup (k.map kV)) ∧ H2 p = some (.dT []) ∧ Q (.ref p) (upd H2 p (.dT [(k, y)]))
theorem pe_disp1T {X : Cx} {ke ve : Expr} {pos : Pos} {tk tv : TE} (hu : X.A.units + 1 < cLine) (hk : PE X ke tk) (hv : PE X ve tv) : PE X (.Dict [some ke] [ve] pos) (tDisp1T tk tv) := by
  refine ⟨fun pins s σ H Q I q => ?_⟩
  have hn := I.hok.fresh (Nat.le_refl s.heap.objs.size)
  have I1 := I.laid (a := s.heap.objs.size) (o := .dT []) (h' := s.heap.push { cls := .type "dict", data := .dict #[] }) (t' := s.toks) (fun _ _ e => Heap.get?_push_of_some _ e) (Nat.le_refl _) (dt_empty s.heap I.big)
  rw [arm_eval_Dict, zip_pairTrees [some ke] [ve] X.env pos rfl rfl, dictDisplay_pairs (pairTrees [some ke] [ve] X.env pos) (fun z => by cases z) (by show 1 < 17; decide)]
  refine wpAny_bind (wpAny_standAt (wpAny_bind ?_))
  unfold subDict
  refine wpAny_bind (wpAny_alloc (wpAny_bind (wpAny_holding ?_)))
  rw [if_pos (show (pairTrees [some ke] [ve] X.env pos).length ≤ 15 by show 1 ≤ 15; decide)]
  refine wpAny_bind (pairTrees_cons_walk (thn (hk.run pins _ σ _ _ I1 (q _ hn)) fun u s1 ⟨x, H1, I2, rx, q1⟩ => thn (hv.run pins s1 σ H1 _ I2 q1) fun w2 s2 ⟨y, H2, I3, ry, q2⟩ => pairTrees_nil_walk (wpAny_holding ?_)))
  obtain ⟨k, b, rfl, hb, hp, q3⟩ := q2
  cases (show u = Value.ref b from rx)
  obtain ⟨z, hd, xs, rel, dd⟩ := dt_of I3.hok hp
  rw [List.forIn_cons]
  refine wpAny_bind (wpAny_bind ?_)
  show wpAny (model X.prog X.w) X.A (dictSet s.heap.objs.size (.ref b) w2 >>= fun _ => pure (ForInStep.yield PUnit.unit)) _ _ _
  refine wpAny_bind (wpAny_dictSet_heap (hsz := by rw [← Paired.length rel]; exact z) (show (tupleKind (mixKind X.prog X.w)).room X.A from Nat.lt_of_le_of_lt (Nat.le_succ _) hu) (key_of I3.hok hb) dd fun h' dd' hs => wpAny_pure ?_)
  show wpAny (model X.prog X.w) X.A (forIn [] PUnit.unit _) _ _ _
  rw [List.forIn_nil]
  refine wpAny_pure (wpAny_pure (wpAny_pure (wpAny_pure ⟨.ref s.heap.objs.size, _, ?_, rfl, q3⟩)))
  obtain ⟨o, es, ep, hq, h2, h3, h4, _, h5⟩ := dd'
  cases rel
  refine d_write I3 (by rw [hp]; exact True.intro) hs ⟨o, hq⟩ ⟨by show 1 ≤ sizeLine; decide, hd, _, ((KT.put (H := H2) .nil k hb ry)).keeps fun c ys ec => ?_, o, es, ep, hq, h2, h3, h4, h5⟩
  rw [upd_ne (ne_of ec hp (fun z => nomatch z))]
  exact ec
end HL

namespace HL
open PySem PySem.Spec PyProof.Rows L2 HT
/-! t += u, both tuples -/
theorem noI_tup : typeLookup (.type "tuple") (dunderI "add") = pure none := by rw [typeLookup_type, builtinLookup_eq_fast]; kernel_rfl
section
variable {X : Cx}
theorem ip_catA : PIp X .Add (rCatA X.K) := by
  intro pins s σ H x y v u Q I rx ry h
  obtain ⟨a, b, xs, ys, rfl, rfl, ha, hb, hz, q0, q1, q2⟩ := h
  cases rx
  cases ry
  obtain ⟨is1, r1, p1, _⟩ := I.tuple ha
  obtain ⟨is2, r2, p2, _⟩ := I.tuple hb
  obtain ⟨⟨c1, d1, da1, sl1⟩, o1, k1, n1, e1⟩ := id p1
  obtain ⟨⟨c2, d2, da2, sl2⟩, o2, k2, n2, e2⟩ := id p2
  simp only at k1 e1 k2 e2
  subst k1 e1 k2 e2
  have go : ∀ {S : PySem.Spec} (_ : Meets ((fun B : Builtin => B ⟨[.ref a, .ref b], []⟩) _) S) (_ : S X.A (wants (EP X pins σ Q) X.xe) s), wpAny (model X.prog X.w) X.A (inplaceOp .Add (.ref a) (.ref b)) (EP X pins σ Q) X.xe s :=
    fun g h => PyProof.Rows.inplaceOp_concat ⟨_, o1, rfl⟩ ⟨_, o2, rfl⟩ noI_tup noFill_tuple_add seq_tuple_add (call_meets PySem.F.slot_tuple_add ⟨_, o1, rfl⟩ PySem.F.entry_tuple_add (PySem.F.args_tuple_add_2 _ _) g h)
  by_cases hx : xs = []
  · subst hx
    cases r1
    exact go (tuple_addW0 a b ([] : List Value).toArray is2.toArray n1 n2 d1 d2 sl1 sl2 (by simp)) ⟨o1, o2, ⟨.ref b, H, I, rfl, q0 rfl⟩⟩
  · have hv : is1 ≠ [] := fun z => hx (r1.nil_iff.mp z)
    by_cases hy : is2 = []
    · exact go (tuple_addW1 a b is1.toArray is2.toArray n1 n2 d1 d2 sl1 sl2 (by simpa using hv) (by simp [hy])) ⟨o1, o2, ⟨.ref a, H, I, rfl, q1 hx (r2.nil_iff.mp hy)⟩⟩
    · refine go (tuple_addW2 a b is1.toArray is2.toArray n1 n2 d1 d2 sl1 sl2 (by simpa using hv) (by simpa using hy) (by rw [List.size_toArray, List.size_toArray, ← r1.length, ← r2.length]; exact hz)) ⟨o1, o2, ?_⟩
      rw [show is1.toArray ++ is2.toArray = (is1 ++ is2).toArray by simp]
      refine ⟨.ref s.heap.objs.size, _, I.laid (t' := s.toks) (o := .tup (xs ++ ys)) (fun c oc q => Heap.get?_push_of_some _ q) (Nat.le_refl _) ?_, rfl, q2 hx (fun w => hy (r2.nil_iff.mpr w)) _ (I.hok.fresh (Nat.le_refl _))⟩
      exact ⟨by rw [List.length_append]; exact hz, is1 ++ is2, r1.append r2, IsTup.new _ _⟩
end
end HL

namespace HL
open PySem PySem.Spec PyProof.Rows L2
/-! sorted of a list of rows (tuples of as many whole numbers each, from 0 to below B) that rise already -/
def codeV (h : Heap) (B : Int) (v u : Value) : Bool := decide (TS.code B (TS.intsOf h v) < TS.code B (TS.intsOf h u))
theorem codeV_swo (h : Heap) (B : Int) : SrtO.Swo (codeV h B) := by
  refine ⟨fun x y e => ?_, fun x y z e1 e2 => ?_⟩
  · have := of_decide_eq_true e
    exact decide_eq_false (by omega)
  · have a1 := of_decide_eq_false e1
    have a2 := of_decide_eq_false e2
    exact decide_eq_false (by omega)
theorem vals_refs : ∀ {us : List Value} {as : List Addr}, (∀ u ∈ us, ∃ a, u = Value.ref a) → as.map V.ref = us.map backV → us = as.map Value.ref
  | [], [], _, _ => rfl
  | [], _ :: _, _, e => by simp at e
  | _ :: _, [], _, e => by simp at e
  | u :: us, a :: as, h, e => by
    obtain ⟨b, rfl⟩ := h u List.mem_cons_self
    rw [List.map_cons, List.map_cons] at e
    obtain ⟨e1, e2⟩ := List.cons.inj e
    have e3 : V.ref a = V.ref b := e1
    rw [List.map_cons, V.ref.inj e3, vals_refs (fun u hu => h u (List.mem_cons_of_mem _ hu)) e2]
theorem sortable_rows {prog : Program} {w : World} {A : Around} {s : Shared} {a : Addr} {vs : List Value} {d : Nat} {B : Int} {f : Value → Value → Bool} (h0 : 0 < vs.length) (hd : 1 ≤ d) (x : TS.TupsOk s.heap d B vs) (hf : ∀ v u ns ms, v ∈ vs → u ∈ vs → TS.TupInts s.heap v ns → TS.TupInts s.heap u ms → f v u = decide (TS.code B ns < TS.code B ms))
    (ha : ∀ o, s.heap.get? a = some o → o.cls ≠ .type "tuple") : SrtO.SortableO prog w A s a vs f := by
  intro h' keep
  have kk : ∀ b o, s.heap.get? b = some o → o.cls = .type "tuple" → h'.get? b = some o := fun b o e c => keep b o (fun z => by subst z; exact ha o e c) e
  have x' := x.keeps kk
  obtain ⟨fs, h1, h2, h3⟩ := TS.firsts_of hd vs x'
  refine ⟨tuples' true, fun Q E hq => ?_, ?_⟩
  · refine PySem.W.kat_kind (T := .type "int") h1 (by omega) (fun g hm => ?_) (by rfl) ?_
    · obtain ⟨n, t, rfl⟩ := h3 g hm
      exact PySem.W.Looks.now
    · rw [show (Value.type "int" != Value.type "tuple") = true by first | decide +kernel | rfl | decide]
      exact hq
  · intro p q hp hq
    obtain ⟨ns, t1, l1, b1⟩ := x _ hp
    obtain ⟨ms, t2, l2, b2⟩ := x _ hq
    show wpAny (model prog w) A (keyLt' (tuples' true) p.1 q.1) (fun r s' => s' = { s with heap := h' } ∧ r = f p.1 q.1) (fun _ _ => False) { s with heap := h' }
    rw [hf _ _ _ _ hp hq t1 t2]
    obtain ⟨a1, xs, e1, ⟨o1, ho1, hc1, n1, hd1⟩, i1⟩ := t1.keeps kk
    obtain ⟨a2, ys, e2, ⟨o2, ho2, hc2, n2, hd2⟩, i2⟩ := t2.keeps kk
    rw [e1, e2]
    refine PySem.W.kat_lt ho1 hd1 ho2 hd2 ?_
    have z1 := i1.length
    have z2 := i2.length
    rw [Array.length_toList] at z1 z2
    rw [show decide (xs.size < ys.size) = false from decide_eq_false (by omega)]
    exact TS.lex_ints 0 i1 i2 (by omega) b1 b2 ⟨rfl, rfl⟩
def rSortedR (K : PySem.W.Frag) : List V → Hp → VK → Prop := fun vs H Q => ∃ (a : Addr) (as : List Addr) (rows : List (List Int)) (d : Nat) (B : Int), vs = [V.ref a] ∧ SqL K H a (as.map V.ref) ∧ as.length = rows.length ∧
  (∀ (i : Nat) (b : Addr) (r : List Int), as[i]? = some b → rows[i]? = some r → H b = some (.tup (r.map V.int))) ∧ 1 ≤ d ∧ (∀ r ∈ rows, r.length = d ∧ TS.Bd B r) ∧ rows.Pairwise (fun r s => TS.code B r < TS.code B s) ∧ ∀ p, H p = none → Q (.ref p) (upd H p (.lst (as.map V.ref)))
theorem cr_sortedR {X : Cx} : CallR X (.builtin "sorted") (rSortedR X.K) := by
  intro pins s σ H vs us Q I r h
  obtain ⟨a, as, rows, d, B, rfl, hs, hlen, hat, hd, hok, hrise, q⟩ := h
  obtain ⟨its, rv, hl, hz⟩ := I.list hs
  obtain ⟨u, rfl, ru⟩ := vals1 r
  obtain rfl : u = Value.ref a := ru
  obtain ⟨e1, e2⟩ := refs_back rv fun x m => by
    obtain ⟨b, _, rfl⟩ := List.mem_map.mp m
    exact ⟨b, rfl⟩
  obtain rfl := vals_refs e2 e1
  have tup : ∀ (i : Nat) (b : Addr) (r : List Int), as[i]? = some b → rows[i]? = some r → TS.TupInts s.heap (.ref b) r := fun i b r h1 h2 => by
    obtain ⟨_, its2, r2, o, ho, hc, n, hdt⟩ := I.hok _ _ (hat i b r h1 h2)
    exact ⟨b, its2.toArray, rfl, ⟨o, ho, hc, n, hdt⟩, by rw [List.toList_toArray]; exact r2.ints⟩
  have row : ∀ (i : Nat) (b : Addr), as[i]? = some b → ∃ r, rows[i]? = some r := fun i b hb => by
    have := (List.getElem?_eq_some_iff.mp hb).1
    exact ⟨_, List.getElem?_eq_getElem (by omega)⟩
  have tok : TS.TupsOk s.heap d B (as.map Value.ref) := fun v hv => by
    obtain ⟨b, hb, rfl⟩ := List.mem_map.mp hv
    obtain ⟨i, hi, e⟩ := List.mem_iff_getElem.mp hb
    have hb' : as[i]? = some b := by rw [List.getElem?_eq_getElem hi, e]
    obtain ⟨r, hr⟩ := row i b hb'
    obtain ⟨k1, k2⟩ := hok r (List.mem_of_getElem? hr)
    exact ⟨r, tup i b r hb' hr, k1, k2⟩
  have srt : SrtO.Srtd (codeV s.heap B) (as.map Value.ref) := by
    refine List.pairwise_iff_getElem.mpr fun i j hi hj hij => ?_
    rw [List.length_map] at hi hj
    have hi' : as[i]? = some as[i] := List.getElem?_eq_getElem hi
    have hj' : as[j]? = some as[j] := List.getElem?_eq_getElem hj
    have ri : rows[i]? = some (rows[i]'(by omega)) := List.getElem?_eq_getElem _
    have rj : rows[j]? = some (rows[j]'(by omega)) := List.getElem?_eq_getElem _
    have := List.pairwise_iff_getElem.mp hrise i j (by omega) (by omega) hij
    rw [List.getElem_map, List.getElem_map]
    unfold codeV
    rw [(tup j _ _ hj' rj).ints, (tup i _ _ hi' ri).ints]
    exact decide_eq_false (by omega)
  have hz' : (as.map Value.ref).length ≤ sizeLine := by rw [List.length_map]; rw [List.length_map] at hz; exact hz
  refine SrtO.sorted_ord (codeV_swo s.heap B) hl.isList hz' (fun h2 h₁ a' ha kk => ?_) fun out hso hb => ?_
  · refine sortable_rows (s := { s with heap := h₁ }) (d := d) (B := B) (by omega) hd (tok.keeps fun b o e _ => (kk b o e).2) (fun v u ns ms mv mu tv tu => ?_) fun o e => ?_
    · obtain ⟨ns', tv', _⟩ := tok v mv
      obtain ⟨ms', tu', _⟩ := tok u mu
      have kv := (tv'.keeps fun b o e _ => (kk b o e).2).ints
      have ku := (tu'.keeps fun b o e _ => (kk b o e).2).ints
      have ev : ns = ns' := tv.ints.symm.trans kv
      have eu : ms = ms' := tu.ints.symm.trans ku
      unfold codeV
      rw [tv'.ints, tu'.ints, ev, eu]
    · have e' : some o = some (seqObj "list" (as.map Value.ref).toArray 0) := e.symm.trans ha
      cases e'
      intro c
      exact absurd (Value.type.inj c) (by decide)
  · have eo := SrtO.stb_uniq (codeV_swo s.heap B) hso srt hb
    subst eo
    obtain ⟨n, hn⟩ := sortedAll_at s.heap (as.map Value.ref) (as.map Value.ref).toArray
    refine ⟨.ref _, upd H (s.heap.objs.size + 1) (.lst (as.map V.ref)), I.laid (t' := s.toks) (fun b o e => sortedAll_old e) (Nat.le_succ _) ⟨hz, as.map Value.ref, n, rv, hn⟩, rfl, q _ (I.hok.fresh (Nat.le_succ _))⟩
end HL

namespace HL
open PySem PySem.Spec PyProof.Rows L2
/-! xs[i] of a list, read for xs[i] += e -/
def rGetL (K : PySem.W.Frag) : V → V → Hp → VK → Prop := fun x y H Q => ∃ p xs i z, x = .ref p ∧ y = .int i ∧ SqL K H p xs ∧ 0 ≤ i ∧ atI xs i = some z ∧ Q z H
theorem get_list {X : Cx} : PGet X (rGetL X.K) := by
  intro pins s σ H x y v u Q I rx ry h
  obtain ⟨p, xs, i, z, rfl, rfl, hq, h0, he, q⟩ := h
  cases rx
  obtain ⟨t, rfl⟩ := ry
  obtain ⟨its, r, pl, hz⟩ := I.list hq
  obtain ⟨j, h1, h2, h3, h4, h5⟩ := atI_get he
  obtain ⟨w, ew, rw'⟩ := r.get h2
  have hl := r.length
  have hn := line63
  have fin : EP X pins σ Q w s := ⟨z, H, I, rw', q⟩
  have hj : i.toNat = j := by
    rw [seqIndex_of h0 h5] at h1
    exact Option.some.inj h1
  exact wpAny_getItem_list pl.isList h0 (by omega) (by rw [hj]; simpa using ew) fin
end HL

namespace HL
/-! ### rows, and how many ways there are to make one of rows -/
/-- b less h, taken k times -/
def subR (b h : List Int) (k : Int) : List Int := (b.zip h).map fun q => q.1 - k * q.2
def zeroB (b : List Int) : Bool := b.all fun z => decide (z = 0)
def nnB (b : List Int) : Bool := b.all fun z => decide (0 ≤ z)
def cnt : List (List Int) → List Int → Nat
  | [], b => if zeroB b = true then 1 else 0
  | h :: t, b => ((List.range (b.sum.toNat + 1)).map fun (k : Nat) => cnt t (subR b h (k : Int))).sum
/-- a kind: as wide as told, nothing below 0, something above it -/
def Kd (g : Nat) (h : List Int) : Prop := h.length = g ∧ (∀ n ∈ h, 0 ≤ n) ∧ ∃ n ∈ h, 0 < n
theorem sum_zeroN : ∀ {l : List Nat}, (∀ x ∈ l, x = 0) → l.sum = 0
  | [], _ => rfl
  | x :: l, h => by rw [List.sum_cons, h x List.mem_cons_self, sum_zeroN fun y hy => h y (List.mem_cons_of_mem _ hy)]
theorem nnB_iff {b : List Int} : nnB b = true ↔ ∀ n ∈ b, 0 ≤ n := by
  unfold nnB
  rw [List.all_eq_true]
  exact ⟨fun h n hn => of_decide_eq_true (h n hn), fun h n hn => decide_eq_true (h n hn)⟩
theorem zeroB_iff {b : List Int} : zeroB b = true ↔ ∀ n ∈ b, n = 0 := by
  unfold zeroB
  rw [List.all_eq_true]
  exact ⟨fun h n hn => of_decide_eq_true (h n hn), fun h n hn => decide_eq_true (h n hn)⟩
theorem subR_len {b h : List Int} {k : Int} (e : b.length = h.length) : (subR b h k).length = b.length := by
  unfold subR
  rw [List.length_map, List.length_zip]
  omega
theorem subR_cons {x y : Int} {b h : List Int} {k : Int} : subR (x :: b) (y :: h) k = (x - k * y) :: subR b h k := rfl
theorem subR_zero : ∀ {b h : List Int}, b.length = h.length → subR b h 0 = b
  | [], [], _ => rfl
  | x :: b, y :: h, e => by
    rw [subR_cons, subR_zero (by simpa using e), Int.zero_mul, Int.sub_zero]
  | [], _ :: _, e => by simp at e
  | _ :: _, [], e => by simp at e
theorem subR_add : ∀ {b h : List Int} {j k : Int}, subR (subR b h j) h k = subR b h (j + k)
  | [], _, _, _ => rfl
  | _ :: _, [], _, _ => rfl
  | x :: b, y :: h, j, k => by
    rw [subR_cons, subR_cons, subR_cons, subR_add, Int.add_mul]
    congr 1
    omega
theorem subR_comm : ∀ {b h g : List Int} {j k : Int}, subR (subR b h j) g k = subR (subR b g k) h j
  | [], _, _, _, _ => by simp [subR]
  | _ :: _, [], g, _, _ => by cases g <;> simp [subR]
  | _ :: _, _ :: _, [], _, _ => by simp [subR]
  | x :: b, y :: h, z :: g, j, k => by
    rw [subR_cons, subR_cons, subR_cons, subR_cons, subR_comm]
    congr 1
    omega
theorem subR_sum : ∀ {b h : List Int} {k : Int}, b.length = h.length → (subR b h k).sum = b.sum - k * h.sum
  | [], [], k, _ => by simp [subR]
  | x :: b, y :: h, k, e => by
    rw [subR_cons, List.sum_cons, List.sum_cons, List.sum_cons, subR_sum (by simpa using e), Int.mul_add]
    omega
  | [], _ :: _, _, e => by simp at e
  | _ :: _, [], _, e => by simp at e
theorem sum_nn : ∀ {b : List Int}, (∀ n ∈ b, 0 ≤ n) → 0 ≤ b.sum
  | [], _ => Int.le_refl _
  | x :: b, h => by
    rw [List.sum_cons]
    have := h x List.mem_cons_self
    have := sum_nn fun n hn => h n (List.mem_cons_of_mem _ hn)
    omega
theorem sum_kd {g : Nat} {h : List Int} (k : Kd g h) : 1 ≤ h.sum := by
  have k2 := k.2.1
  obtain ⟨n, hn, hp⟩ := k.2.2
  clear k
  induction h with
  | nil => cases hn
  | cons x h ih =>
    rw [List.sum_cons]
    have x0 := k2 x List.mem_cons_self
    have r0 := sum_nn fun n hn => k2 n (List.mem_cons_of_mem _ hn)
    rcases List.mem_cons.mp hn with e | e
    · omega
    · have := ih (fun n hn => k2 n (List.mem_cons_of_mem _ hn)) e
      omega
/-- what is below 0 somewhere stays so -/
theorem sub_neg : ∀ {b h : List Int} {k : Int}, b.length = h.length → (∀ n ∈ h, 0 ≤ n) → 0 ≤ k → nnB b = false → nnB (subR b h k) = false
  | [], [], _, _, _, _, e => by cases e
  | x :: b, y :: h, k, el, hn, hk, e => by
    unfold nnB at e ⊢
    rw [subR_cons, List.all_cons]
    rw [List.all_cons] at e
    have y0 := hn y List.mem_cons_self
    by_cases c : 0 ≤ x
    · rw [decide_eq_true c, Bool.true_and] at e
      have := sub_neg (b := b) (h := h) (k := k) (by simpa using el) (fun n hn' => hn n (List.mem_cons_of_mem _ hn')) hk e
      unfold nnB at this
      rw [this, Bool.and_false]
    · have : ¬ 0 ≤ x - k * y := by
        have := Int.mul_nonneg hk y0
        omega
      rw [decide_eq_false this, Bool.false_and]
  | [], _ :: _, _, e, _, _, _ => by simp at e
  | _ :: _, [], _, e, _, _, _ => by simp at e
theorem cnt_neg {g : Nat} : ∀ {l : List (List Int)} {b : List Int}, (∀ h ∈ l, Kd g h) → b.length = g → nnB b = false → cnt l b = 0
  | [], b, _, _, e => by
    unfold cnt
    rw [if_neg fun z => ?_]
    have : nnB b = true := nnB_iff.mpr fun n hn => by rw [zeroB_iff.mp z n hn]; exact Int.le_refl _
    rw [this] at e
    cases e
  | h :: t, b, hl, hb, e => by
    unfold cnt
    have kh := hl h List.mem_cons_self
    refine sum_zeroN fun x hx => ?_
    obtain ⟨k, _, rfl⟩ := List.mem_map.mp hx
    have eb : b.length = h.length := by rw [hb, kh.1]
    exact cnt_neg (fun h' hh => hl h' (List.mem_cons_of_mem _ hh)) (by rw [subR_len eb, hb]) (sub_neg eb kh.2.1 (by omega) e)
theorem sum_range_zero (f : Nat → Nat) {m : Nat} : ∀ {n : Nat}, (∀ k, m ≤ k → f k = 0) → m ≤ n → ((List.range n).map f).sum = ((List.range m).map f).sum
  | 0, _, h => by rw [Nat.le_zero.mp h]
  | n + 1, hf, h => by
    by_cases c : m = n + 1
    · rw [c]
    · rw [List.range_succ, List.map_append, List.sum_append, sum_range_zero f hf (by omega)]
      simp [hf n (by omega)]
theorem sub_far {g : Nat} {b h : List Int} {k : Nat} (kh : Kd g h) (hb : b.length = g) (hk : b.sum.toNat < k) : nnB (subR b h (k : Int)) = false := by
  have eb : b.length = h.length := by rw [hb, kh.1]
  cases e : nnB (subR b h (k : Int)) with
  | false => rfl
  | true =>
    have h0 := sum_nn (nnB_iff.mp e)
    rw [subR_sum eb] at h0
    have h1 := sum_kd kh
    have : (k : Int) * 1 ≤ (k : Int) * h.sum := Int.mul_le_mul_of_nonneg_left h1 (by omega)
    omega
/-- any number of turns that is great enough -/
theorem cnt_to {g : Nat} {h : List Int} {t : List (List Int)} {b : List Int} {m : Nat} (hl : ∀ x ∈ h :: t, Kd g x) (hb : b.length = g) (hm : b.sum.toNat + 1 ≤ m) : cnt (h :: t) b = ((List.range m).map fun (k : Nat) => cnt t (subR b h (k : Int))).sum := by
  have kh := hl h List.mem_cons_self
  have eb : b.length = h.length := by rw [hb, kh.1]
  rw [show cnt (h :: t) b = ((List.range (b.sum.toNat + 1)).map fun (k : Nat) => cnt t (subR b h (k : Int))).sum from rfl]
  exact (sum_range_zero _ (fun k hk => cnt_neg (fun x hx => hl x (List.mem_cons_of_mem _ hx)) (by rw [subR_len eb, hb]) (sub_far kh hb (by omega))) hm).symm
theorem sum_range_shift (f : Nat → Nat) (n : Nat) : ((List.range (n + 1)).map f).sum = f 0 + ((List.range n).map fun k => f (k + 1)).sum := by
  rw [List.range_succ_eq_map, List.map_cons, List.sum_cons, List.map_map]
  rfl
theorem sub_sum_le {g : Nat} {b h : List Int} (kh : Kd g h) (hb : b.length = g) : (subR b h 1).sum.toNat + 1 ≤ b.sum.toNat + 1 := by
  have eb : b.length = h.length := by rw [hb, kh.1]
  rw [subR_sum eb]
  have := sum_kd kh
  omega
/-- the table's own row: without the kind, and with one hamper of it taken out -/
theorem cnt_step {g : Nat} {h : List Int} {t : List (List Int)} {b : List Int} (hl : ∀ x ∈ h :: t, Kd g x) (hb : b.length = g) : cnt (h :: t) b = cnt t b + cnt (h :: t) (subR b h 1) := by
  have kh := hl h List.mem_cons_self
  have eb : b.length = h.length := by rw [hb, kh.1]
  rw [cnt_to hl hb (m := b.sum.toNat + 1 + 1) (by omega), sum_range_shift, show ((0 : Nat) : Int) = 0 from rfl, subR_zero eb, cnt_to hl (by rw [subR_len eb, hb]) (sub_sum_le kh hb)]
  congr 2
  refine List.map_congr_left fun k _ => ?_
  rw [subR_add]
  congr 2
  omega
theorem sum_map_add (f g : Nat → Nat) : ∀ l : List Nat, (l.map fun k => f k + g k).sum = (l.map f).sum + (l.map g).sum
  | [] => rfl
  | x :: l => by
    rw [List.map_cons, List.map_cons, List.map_cons, List.sum_cons, List.sum_cons, List.sum_cons, sum_map_add f g l]
    omega
/-- the same of any kind of the lot -/
theorem cnt_cut {g : Nat} : ∀ {l : List (List Int)} {b : List Int} {i : Nat} {h : List Int}, (∀ x ∈ l, Kd g x) → b.length = g → l[i]? = some h → cnt l b = cnt (l.take i ++ l.drop (i + 1)) b + cnt l (subR b h 1)
  | [], _, _, _, _, _, e => by simp at e
  | x :: l, b, 0, h, hl, hb, e => by
    cases Option.some.inj e
    exact cnt_step hl hb
  | x :: l, b, i + 1, h, hl, hb, e => by
    have e' : l[i]? = some h := e
    have kx := hl x List.mem_cons_self
    have kh : Kd g h := hl h (List.mem_cons_of_mem _ (List.mem_of_getElem? e'))
    have ebx : b.length = x.length := by rw [hb, kx.1]
    have ebh : b.length = h.length := by rw [hb, kh.1]
    have hl' : ∀ y ∈ l, Kd g y := fun y hy => hl y (List.mem_cons_of_mem _ hy)
    have hlc : ∀ y ∈ x :: (l.take i ++ l.drop (i + 1)), Kd g y := fun y hy => by
      rcases List.mem_cons.mp hy with h | h
      · rw [h]; exact kx
      · rcases List.mem_append.mp h with h | h
        · exact hl' y (List.mem_of_mem_take h)
        · exact hl' y (List.mem_of_mem_drop h)
    show cnt (x :: l) b = cnt (x :: (l.take i ++ l.drop (i + 1))) b + cnt (x :: l) (subR b h 1)
    rw [cnt_to hl hb (Nat.le_refl _), cnt_to hlc hb (Nat.le_refl _), cnt_to hl (by rw [subR_len ebh, hb]) (sub_sum_le kh hb), ← sum_map_add]
    congr 1
    refine List.map_congr_left fun k _ => ?_
    have := cnt_cut hl' (b := subR b x (k : Int)) (by rw [subR_len ebx, hb]) e'
    rw [this, subR_comm]
/-- nothing of no goods -/
theorem cnt_nought {g : Nat} : ∀ {l : List (List Int)} {b : List Int}, (∀ x ∈ l, Kd g x) → b.length = g → zeroB b = true → cnt l b = 1
  | [], b, _, _, e => by
    unfold cnt
    rw [if_pos e]
  | h :: t, b, hl, hb, e => by
    have kh := hl h List.mem_cons_self
    have eb : b.length = h.length := by rw [hb, kh.1]
    have es : b.sum = 0 := by
      clear hb eb hl
      induction b with
      | nil => rfl
      | cons x b ih =>
        rw [List.sum_cons, zeroB_iff.mp e x List.mem_cons_self, ih (zeroB_iff.mpr fun n hn => zeroB_iff.mp e n (List.mem_cons_of_mem _ hn))]
        rfl
    rw [cnt_step hl hb, cnt_nought (fun x hx => hl x (List.mem_cons_of_mem _ hx)) hb e, cnt_neg (l := h :: t) hl (by rw [subR_len eb, hb])]
    have := sub_far (k := 1) kh hb (by rw [es]; decide)
    exact this
/-- where something is made of something, some kind goes in -/
theorem cnt_some {g : Nat} {b : List Int} (hb : b.length = g) (hz : zeroB b = false) : ∀ {l : List (List Int)}, (∀ x ∈ l, Kd g x) → (∀ h ∈ l, nnB (subR b h 1) = false) → cnt l b = 0
  | [], _, _ => by
    unfold cnt
    rw [hz]
    rfl
  | h :: t, hl, hn => by
    have kh := hl h List.mem_cons_self
    have eb : b.length = h.length := by rw [hb, kh.1]
    rw [cnt_step hl hb, cnt_some hb hz (fun x hx => hl x (List.mem_cons_of_mem _ hx)) (fun x hx => hn x (List.mem_cons_of_mem _ hx)), cnt_neg (l := h :: t) hl (by rw [subR_len eb, hb]) (hn h List.mem_cons_self)]
/-- the last kind first -/
theorem cnt_last {g : Nat} {h : List Int} (kh : Kd g h) : ∀ {l : List (List Int)} {b : List Int} {m : Nat}, (∀ x ∈ l, Kd g x) → b.length = g → b.sum.toNat + 1 ≤ m → cnt (l ++ [h]) b = ((List.range m).map fun (k : Nat) => cnt l (subR b h (k : Int))).sum
  | [], b, m, _, hb, hm => cnt_to (fun x hx => by rw [List.mem_singleton.mp hx]; exact kh) hb hm
  | x :: l, b, m, hl, hb, hm => by
    have kx := hl x List.mem_cons_self
    have ebx : b.length = x.length := by rw [hb, kx.1]
    have ebh : b.length = h.length := by rw [hb, kh.1]
    have hl' : ∀ y ∈ l, Kd g y := fun y hy => hl y (List.mem_cons_of_mem _ hy)
    have hlh : ∀ y ∈ x :: (l ++ [h]), Kd g y := fun y hy => by
      rcases List.mem_cons.mp hy with e | e
      · rw [e]; exact kx
      · rcases List.mem_append.mp e with e | e
        · exact hl' y e
        · rw [List.mem_singleton.mp e]; exact kh
    have small : ∀ (z : List Int) (k : Nat), Kd g z → (subR b z (k : Int)).sum.toNat + 1 ≤ m := fun z k kz => by
      rw [subR_sum (by rw [hb, kz.1])]
      have := sum_kd kz
      have : 0 ≤ (k : Int) * z.sum := Int.mul_nonneg (by omega) (by omega)
      omega
    show cnt (x :: (l ++ [h])) b = _
    rw [cnt_to hlh hb hm]
    have e1 : ∀ j : Nat, cnt (l ++ [h]) (subR b x (j : Int)) = ((List.range m).map fun (k : Nat) => cnt l (subR (subR b x (j : Int)) h (k : Int))).sum := fun j =>
      cnt_last kh hl' (by rw [subR_len ebx, hb]) (small x j kx)
    have e2 : ∀ k : Nat, cnt (x :: l) (subR b h (k : Int)) = ((List.range m).map fun (j : Nat) => cnt l (subR (subR b x (j : Int)) h (k : Int))).sum := fun k => by
      rw [cnt_to hl (by rw [subR_len ebh, hb]) (small h k kh)]
      congr 1
      refine List.map_congr_left fun j _ => ?_
      rw [subR_comm]
    rw [show ((List.range m).map fun (k : Nat) => cnt (l ++ [h]) (subR b x (k : Int))) = ((List.range m).map fun (j : Nat) => ((List.range m).map fun (k : Nat) => cnt l (subR (subR b x (j : Int)) h (k : Int))).sum) from List.map_congr_left fun j _ => e1 j,
      show ((List.range m).map fun (k : Nat) => cnt (x :: l) (subR b h (k : Int))) = ((List.range m).map fun (k : Nat) => ((List.range m).map fun (j : Nat) => cnt l (subR (subR b x (j : Int)) h (k : Int))).sum) from List.map_congr_left fun k _ => e2 k]
    generalize List.range m = rs
    have swap : ∀ (xs ys : List Nat) (f : Nat → Nat → Nat), (xs.map fun j => (ys.map fun k => f j k).sum).sum = (ys.map fun k => (xs.map fun j => f j k).sum).sum := fun xs ys f => by
      induction xs with
      | nil =>
        rw [List.map_nil, List.sum_nil]
        refine (sum_zeroN fun z hz => ?_).symm
        obtain ⟨k, _, rfl⟩ := List.mem_map.mp hz
        rfl
      | cons x xs ih =>
        rw [List.map_cons, List.sum_cons, ih, ← sum_map_add]
        rfl
    exact swap rs rs fun j k => cnt l (subR (subR b x (j : Int)) h (k : Int))
/-! ### two lots beside one another -/
theorem subR_app {b1 b2 h1 h2 : List Int} {k : Int} (e : b1.length = h1.length) : subR (b1 ++ b2) (h1 ++ h2) k = subR b1 h1 k ++ subR b2 h2 k := by
  unfold subR
  rw [List.zip_append e, List.map_append]
theorem subR_nought : ∀ {b : List Int} {n : Nat} {k : Int}, b.length = n → subR b (List.replicate n 0) k = b
  | [], 0, _, _ => rfl
  | x :: b, n + 1, k, e => by
    rw [List.replicate_succ, subR_cons, subR_nought (by simpa using e), Int.mul_zero, Int.sub_zero]
  | [], n + 1, _, e => by simp at e
  | _ :: _, 0, _, e => by simp at e
theorem zero_app {b1 b2 : List Int} : zeroB (b1 ++ b2) = (zeroB b1 && zeroB b2) := by
  unfold zeroB
  rw [List.all_append]
theorem kd_left {g w : Nat} {h : List Int} (k : Kd g h) : Kd (g + w) (h ++ List.replicate w 0) :=
  ⟨by rw [List.length_append, List.length_replicate, k.1], fun n hn => by
    rcases List.mem_append.mp hn with e | e
    · exact k.2.1 n e
    · rw [List.eq_of_mem_replicate e]
      exact Int.le_refl _, let ⟨n, h1, h2⟩ := k.2.2; ⟨n, List.mem_append_left _ h1, h2⟩⟩
theorem kd_right {g w : Nat} {h : List Int} (k : Kd g h) : Kd (w + g) (List.replicate w 0 ++ h) :=
  ⟨by rw [List.length_append, List.length_replicate, k.1], fun n hn => by
    rcases List.mem_append.mp hn with e | e
    · rw [List.eq_of_mem_replicate e]
      exact Int.le_refl _
    · exact k.2.1 n e, let ⟨n, h1, h2⟩ := k.2.2; ⟨n, List.mem_append_right _ h1, h2⟩⟩
theorem sum_mul (f : Nat → Nat) (c : Nat) : ∀ l : List Nat, (l.map fun k => c * f k).sum = c * (l.map f).sum
  | [] => rfl
  | x :: l => by rw [List.map_cons, List.map_cons, List.sum_cons, List.sum_cons, sum_mul f c l, Nat.mul_add]
theorem sum_mul' (f : Nat → Nat) (c : Nat) : ∀ l : List Nat, (l.map fun k => f k * c).sum = (l.map f).sum * c
  | [] => by simp
  | x :: l => by rw [List.map_cons, List.map_cons, List.sum_cons, List.sum_cons, sum_mul' f c l, Nat.add_mul]
theorem cnt_right {g w : Nat} {b1 : List Int} (hb1 : b1.length = w) (n1 : ∀ n ∈ b1, 0 ≤ n) : ∀ {l : List (List Int)} {b2 : List Int}, (∀ x ∈ l, Kd g x) → b2.length = g → (∀ n ∈ b2, 0 ≤ n) → cnt (l.map fun r => List.replicate w 0 ++ r) (b1 ++ b2) = (if zeroB b1 = true then 1 else 0) * cnt l b2
  | [], b2, _, _, _ => by
    show cnt [] (b1 ++ b2) = _
    unfold cnt
    rw [zero_app]
    cases zeroB b1 <;> cases zeroB b2 <;> rfl
  | h :: t, b2, hl, hb2, n2 => by
    have kh := hl h List.mem_cons_self
    have hl' : ∀ x ∈ t, Kd g x := fun x hx => hl x (List.mem_cons_of_mem _ hx)
    have hlm : ∀ x ∈ (List.replicate w 0 ++ h) :: (t.map fun r => List.replicate w 0 ++ r), Kd (w + g) x := fun x hx => by
      rcases List.mem_cons.mp hx with e | e
      · rw [e]; exact kd_right kh
      · obtain ⟨r, h1, rfl⟩ := List.mem_map.mp e
        exact kd_right (hl' r h1)
    have es : b2.sum.toNat + 1 ≤ (b1 ++ b2).sum.toNat + 1 := by
      rw [List.sum_append]
      have := sum_nn n1
      omega
    rw [List.map_cons, cnt_to hlm (by rw [List.length_append, hb1, hb2]) (Nat.le_refl _), cnt_to hl hb2 es, ← sum_mul]
    congr 1
    refine List.map_congr_left fun k _ => ?_
    rw [subR_app (by rw [hb1, List.length_replicate]), subR_nought hb1]
    by_cases c : nnB (subR b2 h (k : Int)) = true
    · exact cnt_right hb1 n1 hl' (by rw [subR_len (by rw [hb2, kh.1]), hb2]) (nnB_iff.mp c)
    · have c' := Bool.eq_false_iff.mpr c
      rw [cnt_neg (g := w + g) (fun x hx => hlm x (List.mem_cons_of_mem _ hx)) (by rw [List.length_append, hb1, subR_len (by rw [hb2, kh.1]), hb2]) ?_, cnt_neg hl' (by rw [subR_len (by rw [hb2, kh.1]), hb2]) c', Nat.mul_zero]
      unfold nnB at c' ⊢
      rw [List.all_append, c', Bool.and_false]
theorem cnt_beside {g1 g2 : Nat} {l2 : List (List Int)} {b2 : List Int} (h2 : ∀ x ∈ l2, Kd g2 x) (hb2 : b2.length = g2) (n2 : ∀ n ∈ b2, 0 ≤ n) : ∀ {l1 : List (List Int)} {b1 : List Int}, (∀ x ∈ l1, Kd g1 x) → b1.length = g1 → (∀ n ∈ b1, 0 ≤ n) →
    cnt ((l1.map fun r => r ++ List.replicate g2 0) ++ l2.map fun r => List.replicate g1 0 ++ r) (b1 ++ b2) = cnt l1 b1 * cnt l2 b2
  | [], b1, _, hb1, n1 => by
    rw [List.map_nil, List.nil_append, cnt_right hb1 n1 h2 hb2 n2]
    rfl
  | h :: t, b1, hl, hb1, n1 => by
    have kh := hl h List.mem_cons_self
    have hl' : ∀ x ∈ t, Kd g1 x := fun x hx => hl x (List.mem_cons_of_mem _ hx)
    have hlm : ∀ x ∈ (h ++ List.replicate g2 0) :: ((t.map fun r => r ++ List.replicate g2 0) ++ l2.map fun r => List.replicate g1 0 ++ r), Kd (g1 + g2) x := fun x hx => by
      rcases List.mem_cons.mp hx with e | e
      · rw [e]; exact kd_left kh
      · rcases List.mem_append.mp e with e | e
        · obtain ⟨r, q1, rfl⟩ := List.mem_map.mp e
          exact kd_left (hl' r q1)
        · obtain ⟨r, q1, rfl⟩ := List.mem_map.mp e
          exact kd_right (h2 r q1)
    have es : b1.sum.toNat + 1 ≤ (b1 ++ b2).sum.toNat + 1 := by
      rw [List.sum_append]
      have := sum_nn n2
      omega
    have eb : b1.length = h.length := by rw [hb1, kh.1]
    rw [List.map_cons, List.cons_append, cnt_to hlm (by rw [List.length_append, hb1, hb2]) (Nat.le_refl _), cnt_to hl hb1 es, ← sum_mul']
    congr 1
    refine List.map_congr_left fun k _ => ?_
    rw [subR_app eb, subR_nought hb2]
    by_cases c : nnB (subR b1 h (k : Int)) = true
    · exact cnt_beside h2 hb2 n2 hl' (by rw [subR_len eb, hb1]) (nnB_iff.mp c)
    · have c' := Bool.eq_false_iff.mpr c
      rw [cnt_neg (g := g1 + g2) (fun x hx => hlm x (List.mem_cons_of_mem _ hx)) (by rw [List.length_append, hb2, subR_len eb, hb1]) ?_, cnt_neg hl' (by rw [subR_len eb, hb1]) c', Nat.zero_mul]
      unfold nnB at c' ⊢
      rw [List.all_append, c', Bool.false_and]
end HL

namespace HL
/-! ### the cells of a bill, in their order -/
/-- the cells by the first i amounts -/
def cellsI (b : List Int) : Nat → List (List Int)
  | 0 => [[]]
  | i + 1 => (cellsI b i).flatMap fun c => (List.range (b.getD i 0 + 1).toNat).map fun (p : Nat) => c ++ [(p : Int)]
def Bel : List Int → List Int → Prop
  | [], [] => True
  | x :: r, y :: b => (0 ≤ x ∧ x ≤ y) ∧ Bel r b
  | _, _ => False
def lx : List Int → List Int → Prop
  | x :: r, y :: s => x < y ∨ (x = y ∧ lx r s)
  | _, _ => False
theorem Bel.len : ∀ {r b : List Int}, Bel r b → r.length = b.length
  | [], [], _ => rfl
  | x :: r, y :: b, h => by rw [List.length_cons, List.length_cons, Bel.len h.2]
  | [], _ :: _, h => h.elim
  | _ :: _, [], h => h.elim
theorem Bel.nn : ∀ {r b : List Int}, Bel r b → ∀ n ∈ r, 0 ≤ n
  | [], [], _, n, hn => by cases hn
  | x :: r, y :: b, h, n, hn => by
    rcases List.mem_cons.mp hn with e | e
    · rw [e]; exact h.1.1
    · exact Bel.nn h.2 n e
  | [], _ :: _, h, _, _ => h.elim
  | _ :: _, [], h, _, _ => h.elim
theorem Bel.snoc {x a : Int} (h0 : 0 ≤ x) (h1 : x ≤ a) : ∀ {r b : List Int}, Bel r b → Bel (r ++ [x]) (b ++ [a])
  | [], [], _ => ⟨⟨h0, h1⟩, True.intro⟩
  | y :: r, z :: b, h => ⟨h.1, Bel.snoc h0 h1 h.2⟩
  | [], _ :: _, h => h.elim
  | _ :: _, [], h => h.elim
theorem Bel.unsnoc {a : Int} : ∀ {b r : List Int}, Bel r (b ++ [a]) → ∃ c x, r = c ++ [x] ∧ Bel c b ∧ 0 ≤ x ∧ x ≤ a
  | [], [x], h => ⟨[], x, rfl, True.intro, h.1.1, h.1.2⟩
  | [], x :: y :: r, h => h.2.elim
  | [], [], h => h.elim
  | z :: b, x :: r, h => by
    obtain ⟨c, y, e, h1, h2⟩ := Bel.unsnoc (b := b) h.2
    exact ⟨x :: c, y, by rw [e]; rfl, ⟨h.1, h1⟩, h2⟩
  | z :: b, [], h => h.elim
theorem Bel.self : ∀ {b : List Int}, (∀ n ∈ b, 0 ≤ n) → Bel b b
  | [], _ => True.intro
  | x :: b, h => ⟨⟨h x List.mem_cons_self, Int.le_refl _⟩, Bel.self fun n hn => h n (List.mem_cons_of_mem _ hn)⟩
theorem take_snoc {b : List Int} {i : Nat} (h : i < b.length) : b.take (i + 1) = b.take i ++ [b.getD i 0] := by
  rw [List.take_add_one, List.getElem?_eq_getElem h, List.getD_eq_getElem?_getD, List.getElem?_eq_getElem h]
  rfl
theorem cells_mem {b : List Int} (hb : ∀ n ∈ b, 0 ≤ n) : ∀ {i : Nat}, i ≤ b.length → ∀ r, r ∈ cellsI b i ↔ Bel r (b.take i)
  | 0, _, r => by
    rw [List.take_zero]
    show r ∈ [[]] ↔ _
    rw [List.mem_singleton]
    constructor
    · intro e
      rw [e]
      exact True.intro
    · intro h
      cases r with
      | nil => rfl
      | cons x r => exact h.elim
  | i + 1, hi, r => by
    have hg : 0 ≤ b.getD i 0 := by
      rw [List.getD_eq_getElem?_getD, List.getElem?_eq_getElem (show i < b.length by omega)]
      exact hb _ (List.getElem_mem _)
    rw [take_snoc (by omega)]
    show r ∈ (cellsI b i).flatMap _ ↔ _
    rw [List.mem_flatMap]
    constructor
    · rintro ⟨c, hc, hr⟩
      obtain ⟨p, hp, rfl⟩ := List.mem_map.mp hr
      have := List.mem_range.mp hp
      exact ((cells_mem hb (by omega) c).mp hc).snoc (by omega) (by omega)
    · intro h
      obtain ⟨c, x, rfl, h1, h2, h3⟩ := Bel.unsnoc h
      exact ⟨c, (cells_mem hb (by omega) c).mpr h1, List.mem_map.mpr ⟨x.toNat, List.mem_range.mpr (by omega), by rw [Int.toNat_of_nonneg h2]⟩⟩
theorem lx_app : ∀ {c c' d d' : List Int}, c.length = c'.length → lx c c' → lx (c ++ d) (c' ++ d')
  | x :: c, y :: c', d, d', e, h => by
    rcases h with h | ⟨h1, h2⟩
    · exact .inl h
    · exact .inr ⟨h1, lx_app (by simpa using e) h2⟩
  | [], [], _, _, _, h => h.elim
  | [], _ :: _, _, _, _, h => h.elim
  | _ :: _, [], _, _, _, h => h.elim
theorem lx_last {x y : Int} (h : x < y) : ∀ {c : List Int}, lx (c ++ [x]) (c ++ [y])
  | [] => .inl h
  | z :: c => .inr ⟨rfl, lx_last h⟩
theorem lx_asymm : ∀ {r s : List Int}, lx r s → lx s r → False
  | x :: r, y :: s, h, k => by
    rcases h with h | ⟨h1, h2⟩
    · rcases k with k | ⟨k1, _⟩
      · omega
      · omega
    · rcases k with k | ⟨_, k2⟩
      · omega
      · exact lx_asymm h2 k2
  | [], _, h, _ => h.elim
  | _ :: _, [], h, _ => h.elim
theorem lx_sub : ∀ {c h : List Int}, c.length = h.length → (∀ n ∈ h, 0 ≤ n) → (∃ n ∈ h, 0 < n) → lx (subR c h 1) c
  | [], [], _, _, ⟨n, hn, _⟩ => by cases hn
  | x :: c, y :: h, e, h0, ⟨n, hn, hp⟩ => by
    rw [subR_cons]
    have y0 := h0 y List.mem_cons_self
    by_cases z : 0 < y
    · exact .inl (by omega)
    · refine .inr ⟨by omega, lx_sub (by simpa using e) (fun m hm => h0 m (List.mem_cons_of_mem _ hm)) ⟨n, ?_, hp⟩⟩
      rcases List.mem_cons.mp hn with q | q
      · omega
      · exact q
  | [], _ :: _, e, _, _ => by simp at e
  | _ :: _, [], e, _, _ => by simp at e
theorem cells_len {b : List Int} : ∀ {i : Nat} {r : List Int}, r ∈ cellsI b i → r.length = i
  | 0, r, h => by rw [List.mem_singleton.mp h]; rfl
  | i + 1, r, h => by
    obtain ⟨c, hc, hr⟩ := List.mem_flatMap.mp h
    obtain ⟨p, _, rfl⟩ := List.mem_map.mp hr
    rw [List.length_append, cells_len hc]
    rfl
theorem cells_rise {b : List Int} : ∀ {i : Nat}, (cellsI b i).Pairwise lx
  | 0 => List.pairwise_singleton _ _
  | i + 1 => by
    show ((cellsI b i).flatMap _).Pairwise lx
    rw [List.pairwise_flatMap]
    refine ⟨fun c _ => ?_, (cells_rise (i := i)).imp_of_mem fun {c c'} hc hc' h x hx y hy => ?_⟩
    · rw [List.pairwise_map]
      exact (List.pairwise_lt_range).imp fun {p q} h => lx_last (by omega)
    · obtain ⟨p, _, rfl⟩ := List.mem_map.mp hx
      obtain ⟨q, _, rfl⟩ := List.mem_map.mp hy
      exact lx_app (by rw [cells_len hc, cells_len hc']) h
theorem flat_len {α β : Type} {f : α → List β} {n : Nat} : ∀ {l : List α}, (∀ x ∈ l, (f x).length = n) → (l.flatMap f).length = l.length * n
  | [], _ => by simp
  | x :: l, h => by
    rw [List.flatMap_cons, List.length_append, h x List.mem_cons_self, flat_len fun y hy => h y (List.mem_cons_of_mem _ hy), List.length_cons, Nat.add_mul]
    omega
theorem cells_many {b : List Int} {i : Nat} : (cellsI b (i + 1)).length = (cellsI b i).length * (b.getD i 0 + 1).toNat :=
  flat_len fun c _ => by rw [List.length_map, List.length_range]
theorem cells_head {b : List Int} (hb : ∀ n ∈ b, 0 ≤ n) : ∀ {i : Nat}, i ≤ b.length → (cellsI b i)[0]? = some (List.replicate i 0)
  | 0, _ => rfl
  | i + 1, hi => by
    have hg : 0 ≤ b.getD i 0 := by
      rw [List.getD_eq_getElem?_getD, List.getElem?_eq_getElem (show i < b.length by omega)]
      exact hb _ (List.getElem_mem _)
    have ih := cells_head hb (i := i) (by omega)
    show ((cellsI b i).flatMap _)[0]? = _
    cases e : cellsI b i with
    | nil => rw [e] at ih; cases ih
    | cons c cs =>
      rw [e] at ih
      cases Option.some.inj ih
      rw [List.flatMap_cons]
      obtain ⟨m, hm⟩ : ∃ m, (b.getD i 0 + 1).toNat = m + 1 := ⟨(b.getD i 0).toNat, by omega⟩
      rw [hm, List.range_succ_eq_map, List.map_cons, List.cons_append]
      show some (List.replicate i 0 ++ [((0 : Nat) : Int)]) = _
      rw [List.replicate_succ']
      rfl
/-- a cell less a kind stands ahead of it, where it is one -/
theorem cell_ahead {b : List Int} (hb : ∀ n ∈ b, 0 ≤ n) {i : Nat} {c h : List Int} (kh : Kd b.length h) (hc : (cellsI b b.length)[i]? = some c) (hn : nnB (subR c h 1) = true) : subR c h 1 ∈ (cellsI b b.length).take i := by
  have hcm := (cells_mem hb (Nat.le_refl _) c).mp (List.mem_of_getElem? hc)
  rw [List.take_length] at hcm
  have hl : c.length = h.length := by rw [hcm.len, kh.1]
  have below : ∀ {c b h : List Int}, Bel c b → c.length = h.length → (∀ n ∈ h, 0 ≤ n) → nnB (subR c h 1) = true → Bel (subR c h 1) b := by
    intro c
    induction c with
    | nil =>
      intro b h hb hl _ _
      cases b with
      | nil => exact True.intro
      | cons y b => exact hb.elim
    | cons x c ih =>
      intro b h hb hl h0 hn
      cases b with
      | nil => exact hb.elim
      | cons y b =>
        cases h with
        | nil => simp at hl
        | cons z h =>
          rw [subR_cons] at hn ⊢
          unfold nnB at hn
          rw [List.all_cons, Bool.and_eq_true] at hn
          have n1 := of_decide_eq_true hn.1
          have z0 := h0 z List.mem_cons_self
          exact ⟨⟨n1, by have := hb.1.2; omega⟩, ih hb.2 (by simpa using hl) (fun n hn' => h0 n (List.mem_cons_of_mem _ hn')) hn.2⟩
  have hm : subR c h 1 ∈ cellsI b b.length := (cells_mem hb (Nat.le_refl _) _).mpr (by rw [List.take_length]; exact below hcm hl kh.2.1 hn)
  have hlt := lx_sub hl kh.2.1 kh.2.2
  obtain ⟨j, hj, ej⟩ := List.mem_iff_getElem.mp hm
  obtain ⟨hi, ei⟩ := List.getElem?_eq_some_iff.mp hc
  have pw := List.pairwise_iff_getElem.mp (cells_rise (b := b) (i := b.length))
  by_cases c1 : j < i
  · exact List.mem_iff_getElem.mpr ⟨j, by rw [List.length_take]; omega, by rw [List.getElem_take]; exact ej⟩
  · exfalso
    by_cases c2 : j = i
    · subst c2
      have e : subR c h 1 = c := ej.symm.trans ei
      rw [e] at hlt
      exact lx_asymm hlt hlt
    · have := pw i j hi hj (by omega)
      rw [ei, ej] at this
      exact lx_asymm this hlt
end HL

namespace HL
/-! the fillings of a bill, in their order; their places -/
def fils : List (List Int) → List Int → List (List Int)
  | [], b => if zeroB b = true then [[]] else []
  | h :: t, b => (List.range (b.sum.toNat + 1)).flatMap fun (k : Nat) => (fils t (subR b h (k : Int))).map fun c => (k : Int) :: c
/-- counts that come to a bill, none below 0 -/
def Comes : List (List Int) → List Int → List Int → Prop
  | [], [], b => zeroB b = true
  | h :: t, k :: c, b => 0 ≤ k ∧ Comes t c (subR b h k)
  | _, _, _ => False
theorem len_flat {α : Type} (f : Nat → List α) : ∀ l : List Nat, (l.flatMap f).length = (l.map fun k => (f k).length).sum
  | [] => rfl
  | x :: l => by rw [List.flatMap_cons, List.length_append, List.map_cons, List.sum_cons, len_flat f l]
theorem fils_len : ∀ (l : List (List Int)) (b : List Int), (fils l b).length = cnt l b
  | [], b => by
    unfold fils cnt
    split <;> rfl
  | h :: t, b => by
    unfold fils cnt
    rw [len_flat]
    congr 1
    refine List.map_congr_left fun k _ => ?_
    rw [List.length_map, fils_len t _]
theorem comes_len : ∀ {l : List (List Int)} {c b : List Int}, Comes l c b → c.length = l.length
  | [], [], _, _ => rfl
  | [], _ :: _, _, h => h.elim
  | _ :: _, [], _, h => h.elim
  | h :: t, k :: c, b, q => by rw [List.length_cons, List.length_cons, comes_len q.2]
theorem comes_nn : ∀ {l : List (List Int)} {c b : List Int}, Comes l c b → ∀ n ∈ c, 0 ≤ n
  | [], [], _, _ => fun n hn => by cases hn
  | [], _ :: _, _, h => h.elim
  | _ :: _, [], _, h => h.elim
  | h :: t, k :: c, b, q => fun n hn => by
    rcases List.mem_cons.mp hn with e | e
    · rw [e]; exact q.1
    · exact comes_nn q.2 n e
/-- what comes to a bill is not below 0 -/
theorem comes_bill {g : Nat} : ∀ {l : List (List Int)} {c b : List Int}, (∀ h ∈ l, Kd g h) → b.length = g → Comes l c b → nnB b = true
  | [], [], b, _, _, q => nnB_iff.mpr fun n hn => by rw [zeroB_iff.mp q n hn]; exact Int.le_refl _
  | [], _ :: _, _, _, _, h => h.elim
  | _ :: _, [], _, _, _, h => h.elim
  | h :: t, k :: c, b, hl, hb, q => by
    have kh := hl h List.mem_cons_self
    have eb : b.length = h.length := by rw [hb, kh.1]
    have r := comes_bill (fun x hx => hl x (List.mem_cons_of_mem _ hx)) (by rw [subR_len eb, hb]) q.2
    cases e : nnB b with
    | true => rfl
    | false =>
      rw [sub_neg eb kh.2.1 q.1 e] at r
      cases r
theorem fils_mem {g : Nat} : ∀ {l : List (List Int)} {b c : List Int}, (∀ h ∈ l, Kd g h) → b.length = g → (c ∈ fils l b ↔ Comes l c b)
  | [], b, c, _, _ => by
    unfold fils
    cases e : zeroB b with
    | true =>
      rw [if_pos rfl, List.mem_singleton]
      cases c with
      | nil => exact ⟨fun _ => e, fun _ => rfl⟩
      | cons k c => exact ⟨fun h => (by cases h), fun h => h.elim⟩
    | false =>
      rw [if_neg (by decide)]
      cases c with
      | nil => exact ⟨fun h => (by cases h), fun h => (by rw [show Comes [] [] b = (zeroB b = true) from rfl, e] at h; cases h)⟩
      | cons k c => exact ⟨fun h => (by cases h), fun h => h.elim⟩
  | h :: t, b, c, hl, hb => by
    have kh := hl h List.mem_cons_self
    have eb : b.length = h.length := by rw [hb, kh.1]
    have ht : ∀ x ∈ t, Kd g x := fun x hx => hl x (List.mem_cons_of_mem _ hx)
    unfold fils
    rw [List.mem_flatMap]
    constructor
    · rintro ⟨k, _, hk⟩
      obtain ⟨c', hc, rfl⟩ := List.mem_map.mp hk
      exact ⟨Int.natCast_nonneg k, (fils_mem ht (by rw [subR_len eb, hb])).mp hc⟩
    · intro q
      cases c with
      | nil => exact q.elim
      | cons k c =>
        obtain ⟨n, rfl⟩ : ∃ n : Nat, k = (n : Int) := ⟨k.toNat, by have := q.1; omega⟩
        have r := comes_bill ht (by rw [subR_len eb, hb]) q.2
        refine ⟨n, List.mem_range.mpr ?_, List.mem_map.mpr ⟨c, (fils_mem ht (by rw [subR_len eb, hb])).mpr q.2, rfl⟩⟩
        by_cases w : n < b.sum.toNat + 1
        · exact w
        · rw [sub_far kh hb (by omega)] at r
          cases r
theorem fils_rise : ∀ (l : List (List Int)) (b : List Int), (fils l b).Pairwise lx
  | [], b => by
    unfold fils
    split
    · exact List.pairwise_singleton _ _
    · exact .nil
  | h :: t, b => by
    unfold fils
    rw [List.pairwise_flatMap]
    refine ⟨fun k _ => ?_, ?_⟩
    · rw [List.pairwise_map]
      exact (fils_rise t _).imp fun {p q} h => .inr ⟨rfl, h⟩
    · refine List.pairwise_lt_range.imp fun {p q} hpq => ?_
      intro x hx y hy
      obtain ⟨x', _, rfl⟩ := List.mem_map.mp hx
      obtain ⟨y', _, rfl⟩ := List.mem_map.mp hy
      exact .inl (by omega)
/-- the place of counts among the fillings -/
def plc : List (List Int) → List Int → List Int → Nat
  | h :: t, k :: c, b => ((List.range k.toNat).map fun (j : Nat) => cnt t (subR b h (j : Int))).sum + plc t c (subR b h k)
  | _, _, _ => 0
theorem flat_at {α : Type} (f : Nat → List α) {x : α} {i : Nat} : ∀ {n k : Nat}, k < n → (f k)[i]? = some x → ((List.range n).flatMap f)[((List.range k).map fun j => (f j).length).sum + i]? = some x
  | 0, _, h, _ => absurd h (Nat.not_lt_zero _)
  | n + 1, k, h, e => by
    rw [List.range_succ, List.flatMap_append]
    have hi : i < (f k).length := (List.getElem?_eq_some_iff.mp e).1
    by_cases c : k = n
    · subst c
      rw [List.getElem?_append_right (by rw [len_flat]; omega), len_flat, Nat.add_sub_cancel_left, List.flatMap_cons, List.flatMap_nil, List.append_nil]
      exact e
    · have hk : k < n := by omega
      have r := flat_at f hk e
      rw [List.getElem?_append_left (List.getElem?_eq_some_iff.mp r).1]
      exact r
theorem plc_at {g : Nat} : ∀ {l : List (List Int)} {c b : List Int}, (∀ h ∈ l, Kd g h) → b.length = g → Comes l c b → (fils l b)[plc l c b]? = some c
  | [], [], b, _, _, q => by
    have q' : zeroB b = true := q
    unfold fils plc
    rw [if_pos q']
    rfl
  | [], _ :: _, _, _, _, h => h.elim
  | _ :: _, [], _, _, _, h => h.elim
  | h :: t, k :: c, b, hl, hb, q => by
    have kh := hl h List.mem_cons_self
    have eb : b.length = h.length := by rw [hb, kh.1]
    have ht : ∀ x ∈ t, Kd g x := fun x hx => hl x (List.mem_cons_of_mem _ hx)
    obtain ⟨n, rfl⟩ : ∃ n : Nat, k = (n : Int) := ⟨k.toNat, by have := q.1; omega⟩
    have r := comes_bill ht (by rw [subR_len eb, hb]) q.2
    have hn : n < b.sum.toNat + 1 := by
      by_cases w : n < b.sum.toNat + 1
      · exact w
      · rw [sub_far kh hb (by omega)] at r
        cases r
    have ih := plc_at ht (by rw [subR_len eb, hb]) q.2
    unfold fils plc
    have e := flat_at (fun (k : Nat) => (fils t (subR b h (k : Int))).map fun c => (k : Int) :: c) (x := (n : Int) :: c) (i := plc t c (subR b h (n : Int))) hn (by rw [List.getElem?_map, ih]; rfl)
    have es : ((List.range n).map fun j => ((fun (k : Nat) => (fils t (subR b h (k : Int))).map fun c => (k : Int) :: c) j).length).sum = ((List.range n).map fun (j : Nat) => cnt t (subR b h (j : Int))).sum := by
      congr 1
      refine List.map_congr_left fun j _ => ?_
      show ((fils t (subR b h (j : Int))).map fun c => (j : Int) :: c).length = _
      rw [List.length_map, fils_len]
    rw [es] at e
    rw [Int.toNat_natCast]
    exact e
end HL

namespace HL
/-! the law's own list of loads, kind by kind, and the fillings among them -/
def takes (b h : List Int) : List Nat := (List.range (b.sum.toNat + 1)).filter fun (k : Nat) => nnB (subR b h (k : Int))
def lds : List (List Int) → List (List Int × List Int) → List (List Int × List Int)
  | [], rows => rows
  | h :: t, rows => lds t (rows.flatMap fun q => (takes q.2 h).map fun (k : Nat) => (q.1 ++ [(k : Int)], subR q.2 h (k : Int)))
theorem flat_filter {α : Type} {p : Nat → Bool} {f : Nat → List α} : ∀ {l : List Nat}, (∀ k ∈ l, p k = false → f k = []) → (l.filter p).flatMap f = l.flatMap f
  | [], _ => rfl
  | x :: l, h => by
    have ih := flat_filter (l := l) (p := p) (f := f) fun k hk => h k (List.mem_cons_of_mem _ hk)
    rw [List.filter_cons, List.flatMap_cons]
    cases e : p x with
    | true => rw [if_pos rfl, List.flatMap_cons, ih]
    | false => rw [if_neg (by decide), h x List.mem_cons_self e, ih]; rfl
theorem fils_neg {g : Nat} {l : List (List Int)} {b : List Int} (hl : ∀ h ∈ l, Kd g h) (hb : b.length = g) (e : nnB b = false) : fils l b = [] := by
  have := fils_len l b
  rw [cnt_neg hl hb e] at this
  exact List.eq_nil_of_length_eq_zero this
theorem flat_congr {α β : Type} {f g : α → List β} : ∀ {l : List α}, (∀ x ∈ l, f x = g x) → l.flatMap f = l.flatMap g
  | [], _ => rfl
  | x :: l, h => by rw [List.flatMap_cons, List.flatMap_cons, h x List.mem_cons_self, flat_congr fun y hy => h y (List.mem_cons_of_mem _ hy)]
theorem flat_flat {α β γ : Type} {f : α → List β} {g : β → List γ} : ∀ {l : List α}, (l.flatMap f).flatMap g = l.flatMap fun x => (f x).flatMap g
  | [] => rfl
  | x :: l => by rw [List.flatMap_cons, List.flatMap_append, List.flatMap_cons, flat_flat]
theorem flat_map {α β γ : Type} {f : α → β} {g : β → List γ} : ∀ {l : List α}, (l.map f).flatMap g = l.flatMap fun x => g (f x)
  | [] => rfl
  | x :: l => by rw [List.map_cons, List.flatMap_cons, List.flatMap_cons, flat_map]
theorem map_flat {α β γ : Type} {f : α → List β} {g : β → γ} : ∀ {l : List α}, (l.flatMap f).map g = l.flatMap fun x => (f x).map g
  | [] => rfl
  | x :: l => by rw [List.flatMap_cons, List.map_append, List.flatMap_cons, map_flat]
theorem base_fils : ∀ rows : List (List Int × List Int), (rows.filter fun q => zeroB q.2).map (·.1) = rows.flatMap fun q => (fils [] q.2).map fun c => q.1 ++ c
  | [] => rfl
  | q :: rows => by
    rw [List.flatMap_cons, ← base_fils rows, List.filter_cons]
    unfold fils
    cases e : zeroB q.2 with
    | true => rw [if_pos rfl, if_pos rfl, List.map_cons]; simp
    | false => rw [if_neg (by decide), if_neg (by decide)]; rfl
theorem lds_fils {g : Nat} : ∀ {l : List (List Int)} {rows : List (List Int × List Int)}, (∀ h ∈ l, Kd g h) → (∀ q ∈ rows, q.2.length = g) →
    ((lds l rows).filter fun q => zeroB q.2).map (·.1) = rows.flatMap fun q => (fils l q.2).map fun c => q.1 ++ c
  | [], rows, _, _ => base_fils rows
  | h :: t, rows, hl, hr => by
    have kh := hl h List.mem_cons_self
    have ht : ∀ x ∈ t, Kd g x := fun x hx => hl x (List.mem_cons_of_mem _ hx)
    show ((lds t (rows.flatMap fun q => (takes q.2 h).map fun (k : Nat) => (q.1 ++ [(k : Int)], subR q.2 h (k : Int)))).filter fun q => zeroB q.2).map (·.1) = _
    rw [lds_fils ht fun q hq => ?_, flat_flat]
    · refine flat_congr fun q hq => ?_
      have eb : q.2.length = h.length := by rw [hr q hq, kh.1]
      rw [flat_map]
      unfold takes
      rw [flat_filter fun k _ hk => ?_]
      · rw [show fils (h :: t) q.2 = (List.range (q.2.sum.toNat + 1)).flatMap fun (k : Nat) => (fils t (subR q.2 h (k : Int))).map fun c => (k : Int) :: c from rfl, map_flat]
        refine flat_congr fun k _ => ?_
        rw [List.map_map]
        refine List.map_congr_left fun c _ => ?_
        show q.1 ++ [(k : Int)] ++ c = q.1 ++ ((k : Int) :: c)
        rw [List.append_assoc]
        rfl
      · show (fils t (subR q.2 h (k : Int))).map _ = []
        rw [fils_neg ht (by rw [subR_len eb, hr q hq]) hk]
        rfl
    · obtain ⟨q0, hq0, hm⟩ := List.mem_flatMap.mp hq
      obtain ⟨k, _, rfl⟩ := List.mem_map.mp hm
      show (subR q0.2 h (k : Int)).length = g
      rw [subR_len (by rw [hr q0 hq0, kh.1]), hr q0 hq0]
/-- all fillings, as the law lists them -/
theorem all_fils {g : Nat} {l : List (List Int)} {b : List Int} (hl : ∀ h ∈ l, Kd g h) (hb : b.length = g) : ((lds l [([], b)]).filter fun q => zeroB q.2).map (·.1) = fils l b := by
  rw [lds_fils hl fun q hq => by rw [List.mem_singleton.mp hq]; exact hb]
  rw [List.flatMap_cons, List.flatMap_nil, List.append_nil]
  simp
end HL

namespace HL
/-! how often a kind goes in; the fillings step by step -/
theorem neg_on {g : Nat} {b h : List Int} {j k : Nat} (kh : Kd g h) (hb : b.length = g) (hjk : j ≤ k) (e : nnB (subR b h (j : Int)) = false) : nnB (subR b h (k : Int)) = false := by
  have eb : b.length = h.length := by rw [hb, kh.1]
  have := sub_neg (b := subR b h (j : Int)) (h := h) (k := ((k - j : Nat) : Int)) (by rw [subR_len eb, eb]) kh.2.1 (Int.natCast_nonneg _) e
  rw [subR_add, show (j : Int) + ((k - j : Nat) : Int) = (k : Int) by omega] at this
  exact this
/-- a loop that counts up until the kind goes in no more has told all takings -/
theorem takes_to {g : Nat} {b h : List Int} {k : Nat} (kh : Kd g h) (hb : b.length = g) (h1 : ∀ j, j < k → nnB (subR b h (j : Int)) = true) (h2 : nnB (subR b h (k : Int)) = false) : takes b h = List.range k := by
  have hk : k ≤ b.sum.toNat + 1 := by
    by_cases c : k ≤ b.sum.toNat + 1
    · exact c
    · have := h1 (b.sum.toNat + 1) (by omega)
      rw [sub_far kh hb (by omega)] at this
      cases this
  unfold takes
  rw [show b.sum.toNat + 1 = k + (b.sum.toNat + 1 - k) by omega, List.range_add, List.filter_append]
  have e1 : (List.range k).filter (fun (k : Nat) => nnB (subR b h (k : Int))) = List.range k := List.filter_eq_self.mpr fun j hj => h1 j (List.mem_range.mp hj)
  have e2 : ((List.range (b.sum.toNat + 1 - k)).map (k + ·)).filter (fun (k : Nat) => nnB (subR b h (k : Int))) = [] := List.filter_eq_nil_iff.mpr fun j hj => by
    obtain ⟨i, _, rfl⟩ := List.mem_map.mp hj
    rw [neg_on kh hb (Nat.le_add_right k i) h2]
    decide
  rw [e1, e2, List.append_nil]
/-- how far such a loop can come -/
theorem fits_lt {g : Nat} {b h : List Int} {k : Nat} (kh : Kd g h) (hb : b.length = g) (e : nnB (subR b h (k : Int)) = true) : k ≤ b.sum.toNat := by
  by_cases c : k ≤ b.sum.toNat
  · exact c
  · rw [sub_far kh hb (by omega)] at e
    cases e
theorem fils_to {g : Nat} {h : List Int} {t : List (List Int)} {b : List Int} {m : Nat} (hl : ∀ x ∈ h :: t, Kd g x) (hb : b.length = g) (hm : b.sum.toNat + 1 ≤ m) :
    fils (h :: t) b = (List.range m).flatMap fun (k : Nat) => (fils t (subR b h (k : Int))).map fun c => (k : Int) :: c := by
  have kh := hl h List.mem_cons_self
  have eb : b.length = h.length := by rw [hb, kh.1]
  have ht : ∀ x ∈ t, Kd g x := fun x hx => hl x (List.mem_cons_of_mem _ hx)
  rw [show m = (b.sum.toNat + 1) + (m - (b.sum.toNat + 1)) by omega, List.range_add, List.flatMap_append]
  have e2 : ((List.range (m - (b.sum.toNat + 1))).map ((b.sum.toNat + 1) + ·)).flatMap (fun (k : Nat) => (fils t (subR b h (k : Int))).map fun c => (k : Int) :: c) = [] := by
    rw [flat_map]
    refine List.flatMap_eq_nil_iff.mpr fun i _ => ?_
    rw [fils_neg ht (by rw [subR_len eb, hb]) (sub_far kh hb (by omega))]
    rfl
  rw [e2, List.append_nil]
  rfl
def bump : List Int → List Int
  | k :: c => (k + 1) :: c
  | [] => []
theorem fils_step {g : Nat} {h : List Int} {t : List (List Int)} {b : List Int} (hl : ∀ x ∈ h :: t, Kd g x) (hb : b.length = g) :
    fils (h :: t) b = (fils t b).map (fun c => (0 : Int) :: c) ++ (fils (h :: t) (subR b h 1)).map bump := by
  have kh := hl h List.mem_cons_self
  have eb : b.length = h.length := by rw [hb, kh.1]
  rw [fils_to hl hb (m := b.sum.toNat + 1 + 1) (by omega), List.range_succ_eq_map, List.flatMap_cons, fils_to hl (b := subR b h 1) (by rw [subR_len eb, hb]) (sub_sum_le kh hb), map_flat, flat_map, show ((0 : Nat) : Int) = 0 from rfl, subR_zero eb]
  congr 1
  refine flat_congr fun k _ => ?_
  rw [List.map_map, subR_add, show (1 : Int) + (k : Int) = ((k.succ : Nat) : Int) by omega]
  refine List.map_congr_left fun c _ => ?_
  show ((k.succ : Nat) : Int) :: c = ((k : Int) + 1) :: c
  congr 1
theorem at_lt {g : Nat} {h : List Int} {t : List (List Int)} {b : List Int} {p : Nat} (hl : ∀ x ∈ h :: t, Kd g x) (hb : b.length = g) (hp : p < cnt t b) : (fils (h :: t) b)[p]? = ((fils t b)[p]?).map fun c => (0 : Int) :: c := by
  rw [fils_step hl hb, List.getElem?_append_left (by rw [List.length_map, fils_len]; exact hp), List.getElem?_map]
theorem at_ge {g : Nat} {h : List Int} {t : List (List Int)} {b : List Int} {p : Nat} (hl : ∀ x ∈ h :: t, Kd g x) (hb : b.length = g) (hp : cnt t b ≤ p) : (fils (h :: t) b)[p]? = ((fils (h :: t) (subR b h 1))[p - cnt t b]?).map bump := by
  rw [fils_step hl hb, List.getElem?_append_right (by rw [List.length_map, fils_len]; exact hp), List.length_map, fils_len, List.getElem?_map]
end HL

namespace HL
open PySem PySem.Spec PyProof.Rows L2
open PySem.W (KeyPure EachIs)
open PySem.Spec PySem.W
open LamX (CodeO Tabs TabB ExtN lamEnv lam_make2)
/-! sorted(rows, key=lambda row: abs(row[place])): rows of whole numbers, the place a name of the def -/
/-- the names of such a lambda: its one parameter, the place of the def around it, abs -/
structure LamK (sd sc : Scope) (r pl : Str) : Prop where
  kind : sc.kind = .function
  co : sc.isCoroutine = false
  gen : sc.isGenerator = false
  nocell : ∀ y ∈ sc.names, y.2 ≠ .cell
  row : sc.names.lookup r = some .local
  place : sc.names.lookup pl = some .free
  ab : sc.names.lookup (Str.ofString "abs") = some .globalImplicit
  only : ∀ y ∈ sc.names, y.2 = .free → y.1 = pl
  out : sd.names.lookup pl = some .cell
def lamKB (sd sc : Scope) (r pl : Str) : Bool :=
  decide (sc.kind = .function) && !sc.isCoroutine && !sc.isGenerator && (sc.names.all fun y => !decide (y.2 = .cell)) && decide (sc.names.lookup r = some .local) && decide (sc.names.lookup pl = some .free) && decide (sc.names.lookup (Str.ofString "abs") = some .globalImplicit) &&
    (sc.names.all fun y => !decide (y.2 = .free) || decide (y.1 = pl)) && decide (sd.names.lookup pl = some .cell)
theorem lamK_by {sd sc : Scope} {r pl : Str} (h : lamKB sd sc r pl = true) : LamK sd sc r pl := by
  unfold lamKB at h
  simp only [Bool.and_eq_true, Bool.or_eq_true, Bool.not_eq_true', decide_eq_true_eq, decide_eq_false_iff_not, List.all_eq_true] at h
  obtain ⟨⟨⟨⟨⟨⟨⟨⟨h1, h2⟩, h3⟩, h4⟩, h5⟩, h6⟩, h7⟩, h8⟩, h9⟩ := h
  exact ⟨h1, h2, h3, h4, h5, h6, h7, fun y hy e => (h8 y hy).resolve_left fun z => z e, h9⟩
def absI (z : Int) : Int := if z < 0 then -z else z
section
variable {X : Cx} {pins : List (Addr × Obj)} {σ : L2.St} {H : Hp} {s : Shared}
theorem key_turn {sc : Scope} {ps : Arguments} {r pl : Str} {f c' : Addr} {pm ct : Value} {i : Nat} {n z : Int} {p1 p2 p3 p4 p5 : Pos} {a : Addr} {xs : List Int}
    (I : Inv X pins σ H s) (L : LamK X.env.scope sc r pl) (hf : s.heap.get? f = some (lamO X ps (.Call (.Name "abs" p1) [.Subscript (.Name r p2) (.Name pl p3) p4] [] p5) sc pm c' ct)) (hco : H c' = some (CodeO c' (X.env.qual ++ "<lambda>")))
    (hb : ∀ v, bindArgs (PySem.W.kla_fn "<lambda>" (X.env.qual ++ "<lambda>") ps (.Call (.Name "abs" p1) [.Subscript (.Name r p2) (.Name pl p3) p4] [] p5) sc (cloFrom X.env.cells sc.names []) pm (.ref c') ct) ⟨[v], []⟩ = pure [(r, v)])
    (hm : X.mg "abs" = none) (hN : X.N[i]? = some pl) (hσ : σ[i]? = some (some (.int n))) (hr : Room 3 X.A) (dr : (r == ("__debug__" : Str)) = false) (dp : (pl == ("__debug__" : Str)) = false) (dp2 : (pl == ("__classdict__" : Str)) = false)
    (ha : H a = some (.tup (xs.map V.int))) (hat : atI (xs.map V.int) n = some (.int z)) (g : Heap) (tk : Nat) (kp : ∀ b o, s.heap.get? b = some o → g.get? b = some o) :
    wpAny (model X.prog X.w) X.A.in1.in1 (call (.ref f) [.ref a]) (KeyPure (.int (absI z)) { s with heap := g, toks := tk }) (fun _ _ => False) { s with heap := g, toks := tk } := by
  obtain ⟨cp, hcp⟩ : ∃ c, X.env.cells.lookup pl = some c := I.ok.has _ (.inl L.out)
  have hclo : (cloFrom X.env.cells sc.names []).lookup pl = some cp := by
    have hy : (pl, NameKind.free) ∈ sc.names := PySem.mem_of_lookup L.place
    obtain ⟨c2, h2⟩ := mem_lookup (cloFrom_has (cells := X.env.cells) (acc := []) hy)
    rcases cloFrom_mem (PySem.mem_of_lookup h2) with hm | ⟨h1, h3⟩
    · cases hm
    · rw [h2, h3, hcp]
      rfl
  have hplv : ∃ t, s.heap.IsCell cp (some (.int n t)) := by
    obtain ⟨m, hn, hl⟩ := I.loc
    obtain ⟨u, ru, q⟩ := hl i pl _ hN hσ (.inr (.inl L.out))
    obtain ⟨t, rfl⟩ := ru
    rcases q with ⟨k, _⟩ | ⟨_, c, e, hc⟩
    · have k : X.env.scope.names.lookup pl = some .local := k
      rw [L.out] at k
      cases k
    · rw [hcp] at e
      cases e
      exact ⟨t, hc⟩
  obtain ⟨t, hcell⟩ := hplv
  obtain ⟨its, rv, htp, hz⟩ := I.tuple (a := a) (SqT.of ha)
  obtain ⟨j, h1, h2, h3, h4, h5⟩ := atI_get hat
  obtain ⟨w, ew, rw'⟩ := rv.get h2
  obtain ⟨tz, rfl⟩ := rw'
  have hl := rv.length
  have hn63 := line63
  have of1 : g.get? f = some (lamO X ps (.Call (.Name "abs" p1) [.Subscript (.Name r p2) (.Name pl p3) p4] [] p5) sc pm c' ct) := kp _ _ hf
  obtain ⟨⟨oc, vs, tc, hoc, hdc, hvc⟩, _, _⟩ := I.hok c' _ hco
  have dpth : X.A.in1.in1.depth < recursionLimit := by
    have := hr.dp
    show X.A.depth < _
    omega
  refine wpAny_call (PySem.W.kla_callFunE dpth of1 rfl L.co L.gen rfl ⟨c', oc, vs, tc, rfl, kp _ _ hoc, hdc, hvc⟩ ?_)
  rw [hb]
  refine wpAny_pure (wpAny_newFunctionEnv L.nocell (fun y hy => by rw [List.mem_singleton.mp hy]; exact L.row) (fun h₁ hns hsb => ⟨?_, ?_⟩) L.kind)
  · have lim : Heap.NoLimit g := I.nolimit.keeps kp
    exact lim.fresh _ hsb
  have kp1 : ∀ b o, g.get? b = some o → h₁.get? b = some o := fun b o e => hsb.extBut b o (Nat.ne_of_lt (Heap.lt_size e)) (Heap.get?_push_of_some _ e)
  have kp2 : ∀ b o, s.heap.get? b = some o → h₁.get? b = some o := fun b o e => kp1 _ _ (kp _ _ e)
  refine PySem.W.kla_codeExpr ?_
  obtain ⟨mb, b1, b2⟩ := I.mod.blt
  refine wpAny_Call_Name_kw (Calls.Name_function_global L.kind L.ab (Calls.loadGlobal_builtin (I.mod.glob.keeps fun b o e => kp2 _ _ (I.bk b o e)) hm (b1.keeps fun b o e => kp2 _ _ (I.bk b o e)) ((b2 "abs" (by decide)).trans (show bootBuiltins "abs" = some (.builtin "abs") by decide +kernel)) ?_) (by decide))
  refine PyProof.Rows.callWith_builtin1 ?_ rfl rfl
  refine Calls.spliced_cons (Subscript_ (wpAny_Name (wpAny_loadName_local (v := .ref a) L.kind L.row hns ?_ (wpAny_Name (wpAny_loadName_free (v := .int n t) L.kind L.place hclo ?_ ?_ dp2) dp)) dr))
  · show ([(r, Value.ref a)].reverse).lookup r = some (.ref a)
    simp
  · obtain ⟨o, ho, hd⟩ := hcell
    exact ⟨o, kp2 _ _ ho, hd⟩
  · refine subscriptTail_builtinR (x := .int z tz) (htp.keeps kp2).typeIs slot_tuple_getitem.lookup (getItem_tuple (j := j) (htp.keeps kp2) (by omega) (by omega) (by rw [List.size_toArray, ← hl]; exact h1) (by simpa using ew) ⟨rfl, Calls.spliced_nil ?_⟩) rfl
    refine call_abs_int fun u tk2 => ?_
    exact ⟨h₁, _, rfl, kp1, .int _ _⟩
end
/-- the row at an address, as it is told -/
def rowF (H : Hp) (a : Addr) : List Int := match H a with
  | some (.tup xs) => xs.map fun v => match v with
    | .int n => n
    | _ => 0
  | _ => []
theorem rowF_at {H : Hp} {a : Addr} {r : List Int} (h : H a = some (.tup (r.map V.int))) : rowF H a = r := by
  unfold rowF
  rw [h]
  simp [List.map_map, Function.comp_def]
def tSortKey (K : PySem.W.Frag) (T : List (Addr × Str)) (i : Nat) (te : TE) : TE := fun σ H Q => te σ H fun v H0 => ∃ (l : Addr) (as : List Addr) (row : Addr → List Int) (n : Nat), v = .ref l ∧ H0 l = some (.lst (as.map V.ref)) ∧ Tabs T H0 ∧ σ[i]? = some (some (.int (n : Int))) ∧
  (∀ a ∈ as, H0 a = some (.tup ((row a).map V.int)) ∧ n < (row a).length) ∧
  ∀ (H1 : Hp) (bs : List Addr) (p : Addr), ExtN H0 H1 → Tabs T H1 → bs.Perm as → bs.Pairwise (fun a b => absI ((row a).getD n 0) ≤ absI ((row b).getD n 0)) → H1 p = none → Q (.ref p) (upd H1 p (.lst (bs.map V.ref)))
theorem each_refs : ∀ as : List Addr, EachIs (fun (v : Value) (a : Addr) => v = .ref a) (as.map Value.ref) as
  | [] => .nil
  | a :: as => .cons rfl (each_refs as)
theorem refs_each : ∀ {vs : List Value} {as : List Addr}, EachIs (fun (v : Value) (a : Addr) => v = .ref a) vs as → vs = as.map Value.ref
  | _, _, .nil => rfl
  | _, _, .cons h t => by rw [List.map_cons, h, refs_each t]
theorem vals_of_refs : ∀ as : List Addr, Vals (as.map V.ref) (as.map Value.ref)
  | [] => .nil
  | a :: as => .cons rfl (vals_of_refs as)
theorem pe_sortKey {X : Cx} {T : List (Addr × Str)} {c P : Addr} {i : Nat} {r pl : Str} {ps : Arguments} {sc : Scope} {e : Expr} {te : TE} {p lp kp pos p1 p2 p3 p4 p5 : Pos}
    (hg : Gl X "sorted") (hs : X.mg "sorted" = none) (hm : X.mg "abs" = none) (he : PE X e te) (TB : TabB X.base X.mg c P) (hcode : X.env.code = .ref c) (hT : (P, X.env.qual ++ "<lambda>") ∈ T) (hu : ∀ p ∈ T, p.1 = P → p.2 = X.env.qual ++ "<lambda>")
    (L : LamK X.env.scope sc r pl) (hdef : defaultsOf ps X.env = ([], [])) (hN : X.N[i]? = some pl) (hr : Room 3 X.A)
    (hb : ∀ (q : Str) (cl : List (Str × Addr)) (pm cv ctv v : Value), bindArgs (PySem.W.kla_fn "<lambda>" q ps (.Call (.Name "abs" p1) [.Subscript (.Name r p2) (.Name pl p3) p4] [] p5) sc cl pm cv ctv) ⟨[v], []⟩ = pure [(r, v)])
    (hst : starEach [e] X.env = [(false, eval e X.env)] := by rfl)
    (dr : (r == ("__debug__" : Str)) = false := by decide) (dp : (pl == ("__debug__" : Str)) = false := by decide) (dp2 : (pl == ("__classdict__" : Str)) = false := by decide) :
    PE X (.Call (.Name "sorted" p) [e] [⟨some "key", .Lambda ps (.Call (.Name "abs" p1) [.Subscript (.Name r p2) (.Name pl p3) p4] [] p5) sc lp, kp⟩] pos) (tSortKey X.K T i te) := by
  refine ⟨fun pins s σ H Q I h => ?_⟩
  refine wpAny_Call_Name_kw (ld_blt I hg hs (show bootBuiltins "sorted" = some (.builtin "sorted") by decide +kernel) ?_ (by decide) (by decide))
  refine PyProof.Rows.callWith_kw ?_ (by rw [hst]; rfl) (by rw [hst]; rfl) rfl rfl
  rw [hst]
  show wpAny _ _ (spliced [(false, eval e X.env)]) _ _ s
  refine Calls.spliced_cons (thn (he.run pins s σ H _ I (show te σ H _ from h)) fun u s1 ⟨v, H0, I0, r0, q0⟩ => Calls.spliced_nil ?_)
  obtain ⟨l, as, row, n, rfl, hL, hTt, hσ, hrow, q⟩ := q0
  obtain rfl : u = Value.ref l := r0
  show wpAny _ _ (evalAll ((do let v ← eval (.Lambda ps (.Call (.Name "abs" p1) [.Subscript (.Name r p2) (.Name pl p3) p4] [] p5) sc lp) X.env; standAt pos; pure v) :: [])) _ _ s1
  have hfree : ∀ y ∈ sc.names, y.2 = .free → ∃ c, X.env.cells.lookup y.1 = some c := fun y hy e => by
    rw [L.only y hy e]
    exact I.ok.has _ (.inl L.out)
  refine wpAny_evalAll_cons (wpAny_bind (lam_make2 I0 TB hcode hT hu hTt hdef hfree fun f c' pm' ctv H1 s2 J eN T1 hf hfn hfr hco => wpAny_bind (wpAny_standAt (wpAny_pure (wpAny_evalAll_nil ?_)))))
  have hL1 : SqL X.K H1 l (as.map V.ref) := by
    exact SqL.of (eN _ _ hL (fun ps w => by cases w))
  have hrow1 : ∀ a ∈ as, H1 a = some (.tup ((row a).map V.int)) ∧ n < (row a).length := fun a ha => ⟨eN _ _ (hrow a ha).1 (fun ps w => by cases w), (hrow a ha).2⟩
  obtain ⟨its, rv, hl, hz⟩ := J.list hL1
  obtain ⟨e1, e2⟩ := refs_back rv fun x m => by
    obtain ⟨b, _, rfl⟩ := List.mem_map.mp m
    exact ⟨b, rfl⟩
  obtain rfl := vals_refs e2 e1
  have hz' : as.length ≤ sizeLine := by rw [List.length_map] at hz; exact hz
  have hun := hr.un
  show wpAny _ _ (call (.builtin "sorted") [.ref l] [(Str.ofString "key", .ref f)]) _ _ s2
  refine PySem.W.sorted_key_data (b := false) (R := fun (v : Value) (a : Addr) => v = .ref a) (bs := as) (fun a => .int (absI ((row a).getD n 0))) hl.isList (each_refs as) (PySem.W.AllAlike.of fun _ _ => by simp [PySem.W.alike]) (.inr fun d hd => ?_) hz' (fun a _ => ?_) (ksk_s1 _ _) (fun _ => ksk_l1 _ _) (fun _ => ksk_t1 _ _)
    (fun v a hv ha g tk kp => ?_) fun out cc h' tk kp fresh hD hlen eo => ?_
  · obtain ⟨a, _, rfl⟩ := List.mem_map.mp hd
    exact ⟨(fun z => by cases z), (fun xs z => by cases z)⟩
  · have hd : (PyData.int (absI ((row a).getD n 0))).depth = 0 := by simp [PyData.depth]
    rw [hd]
    omega
  · subst hv
    have hat : atI ((row a).map V.int) (n : Int) = some (.int ((row a).getD n 0)) := atI_nat (by
      rw [List.getElem?_map, List.getD_eq_getElem?_getD, List.getElem?_eq_getElem (hrow1 a ha).2]
      rfl)
    exact key_turn J L hf hco (fun v => hb _ _ _ _ _ v) hm hN hσ hr dr dp dp2 (hrow1 a ha).1 hat g tk kp
  · have eout := refs_each eo
    have hle : PySem.W.dataLe (β := Addr) false (fun a => .int (absI ((row a).getD n 0))) = fun a b => decide (absI ((row a).getD n 0) ≤ absI ((row b).getD n 0)) := PySem.W.dataLe_int (fun a => absI ((row a).getD n 0))
    rw [hle] at eout
    have tot : PySem.W.TotalLe (fun a b : Addr => decide (absI ((row a).getD n 0) ≤ absI ((row b).getD n 0))) := ⟨fun a b c h1 h2 => by
      have h1 := of_decide_eq_true h1
      have h2 := of_decide_eq_true h2
      exact decide_eq_true (Int.le_trans h1 h2), fun a b => by
      rcases Int.le_total (absI ((row a).getD n 0)) (absI ((row b).getD n 0)) with h | h
      · exact .inl (decide_eq_true h)
      · exact .inr (decide_eq_true h)⟩
    have srt := (PySem.W.sort_pairwise tot as).imp fun {a b} h => of_decide_eq_true h
    have prm := List.mergeSort_perm as fun a b : Addr => decide (absI ((row a).getD n 0) ≤ absI ((row b).getD n 0))
    generalize as.mergeSort (fun a b : Addr => decide (absI ((row a).getD n 0) ≤ absI ((row b).getD n 0))) = bs at eout srt prm
    refine ⟨.ref _, upd H1 (s2.heap.objs.size + 1) (.lst (bs.map V.ref)), J.laid (t' := tk) kp (Nat.le_succ _) ⟨?_, bs.map Value.ref, cc, vals_of_refs bs, ?_⟩, rfl, q H1 bs _ eN T1 prm srt (J.hok.fresh (Nat.le_succ _))⟩
    · rw [List.length_map, prm.length_eq]
      exact hz'
    · rw [eout] at hD
      exact hD
end HL

namespace HL
open PySem PySem.Spec PyProof.Rows L2
/-! zip of a tuple and a list, by the library's zip over iterators of any kind -/
def ItzM (K : PySem.W.Frag) (a b : Addr) : It :=
  ⟨fun n H => ∃ us ws u w, (SqT K H a us ∧ us[n]? = some u) ∧ SqL K H b ws ∧ ws[n]? = some w,
    fun n H v H' => ∃ T u w, v = .ref T ∧ H T = none ∧ H' = upd H T (.tup [u, w]) ∧ (∀ us, SqT K H a us → us[n]? = some u) ∧ ∀ ws, SqL K H b ws → ws[n]? = some w,
    fun n H => ∃ us ws : List V, SqT K H a us ∧ SqL K H b ws ∧ us.length = ws.length ∧ n = us.length⟩
abbrev stM (z TI TO j k a b : Addr) (n : Nat) (h : Heap) : Prop := IsZip h z TI TO .none ∧ IsPair h TI (.ref j) (.ref k) ∧ (∃ u w, IsPair h TO u w) ∧ h.IsTupleIter j a n ∧ h.IsListIter k b n
theorem sep_of {z TI TO j k a b : Addr} (D : ZipApart z TI TO j k a b) : ZipSep2 z TI TO j k [j, a] [k, b] := by
  have no : ∀ {x y w : Addr}, x ≠ y → x ≠ w → x ∉ [y, w] := fun h1 h2 m => by
    rcases List.mem_cons.mp m with e | e
    · exact h1 e
    · exact h2 (List.mem_singleton.mp e)
  exact ⟨D.TIz, D.TOz, D.TITO, D.TIi1, List.mem_cons_self, no D.i1z.symm D.l1z.symm, no D.TOi1 D.l1TO.symm, D.TIi2, List.mem_cons_self, no D.i2z.symm D.l2z.symm, no D.TOi2 D.l2TO.symm, no D.i12 D.l2i1.symm, no D.i12.symm D.l1i2.symm⟩
theorem turn_zipM {P : Program} {w : World} {K : PySem.W.Frag} {elts : List Expr} {kk : Nat} {tp : Pos} {a b z TI TO j k : Addr} (D : ZipApart z TI TO j k a b) : Turn P w K (.Tuple elts kk tp) (ItzM K a b) [z, TI, TO, j, k] z (stM z TI TO j k a b) where
  mem := List.mem_cons_self
  obj := by
    rintro n h ⟨s1, s2, ⟨u, w', s3⟩, ⟨o4, e4, _, d4⟩, ⟨o5, e5, _, d5⟩⟩ c hc
    simp only [List.mem_cons, List.mem_nil_iff, or_false] at hc
    rcases hc with rfl | rfl | rfl | rfl | rfl
    · exact ⟨_, s1, fun v q => nomatch q⟩
    · exact ⟨_, s2, fun v q => nomatch q⟩
    · exact ⟨_, s3, fun v q => nomatch q⟩
    · exact ⟨o4, e4, fun v q => by rw [d4] at q; cases q⟩
    · exact ⟨o5, e5, fun v q => by rw [d5] at q; cases q⟩
  keep := by
    rintro n h h' ⟨s1, s2, ⟨u, w', s3⟩, s4, s5⟩ kp
    exact ⟨kp _ (by simp) _ s1, kp _ (by simp) _ s2, ⟨u, w', kp _ (by simp) _ s3⟩, s4.at fun o q => kp _ (by simp) o q, s5.at fun o q => kp _ (by simp) o q⟩
  item := by
    intro X hP hw hK hc n pins s σ H E I hf st hg
    subst hP hw hK
    obtain ⟨s1, s2, ⟨u0, w0, s3⟩, s4, s5⟩ := st
    obtain ⟨us, ws, u, w', ⟨qa, hu⟩, qb, hw'⟩ := hg
    obtain ⟨la, va, ta, _⟩ := I.tuple qa
    obtain ⟨lb, vb, tb, _⟩ := I.list qb
    obtain ⟨x1, gx1, r1⟩ := va.get hu
    obtain ⟨x2, gx2, r2⟩ := vb.get hw'
    have lt1 : n < la.toArray.size := by rw [List.size_toArray]; exact (List.getElem?_eq_some_iff.mp gx1).1
    have lt2 : n < lb.toArray.size := by rw [List.size_toArray]; exact (List.getElem?_eq_some_iff.mp gx2).1
    have hh : X.A.in1.handled = none := I.ok.hd hc
    have zl : z < s.heap.objs.size := Heap.lt_size s1
    refine wpAny_pyNext_zipD2_item (sep_of D) (Draws.tuple hh j a D.l1i1 la.toArray) (Draws.list hh k b D.l2i2 lb.toArray) s1 s2 s3 ⟨s4, ta⟩ ⟨s5, tb.isList⟩ lt1 lt2 fun y1 y2 h' tk g1 g2 z1 z3 t1 t2 hT hsz hk => ?_
    have ey1 : y1 = x1 := by
      have g1' : la[n]? = some y1 := by simpa using g1
      exact Option.some.inj (g1'.symm.trans gx1)
    have ey2 : y2 = x2 := by
      have g2' : lb[n]? = some y2 := by simpa using g2
      exact Option.some.inj (g2'.symm.trans gx2)
    subst ey1 ey2
    refine ⟨_, rfl, wpAny_letOwnedTupleGo_zip (s := { s with heap := h', toks := tk }) z1 fun h2 zz sb => ?_⟩
    have T2 : h2.get? s.heap.objs.size = some { cls := .type "tuple", data := .seq #[y1, y2] } := (sb.2 _ (Nat.ne_of_gt zl)).trans hT
    have I1 := I.turnedNew (ob := .tup [u, w']) (t' := tk) (ch := [z, TI, TO, j, k]) (h' := h2) (fun c o hb q => by
      simp only [List.mem_cons, List.mem_nil_iff, or_false, not_or] at hb
      exact (sb.2 c hb.1).trans (hk c o hb.1 hb.2.2.1 hb.2.2.2.1 hb.2.2.2.2 q)) hf (Nat.le_refl _) ⟨by show 2 ≤ sizeLine; decide, [y1, y2], .cons r1 (.cons r2 .nil), ⟨_, T2, rfl, _, rfl⟩⟩
    have up : ∀ {c : Addr} {o : Obj}, c ≠ z → h'.get? c = some o → h2.get? c = some o := fun n q => (sb.2 _ n).trans q
    refine ⟨.ref s.heap.objs.size, _, I1, rfl, ⟨_, u, w', rfl, I.hok.fresh (Nat.le_refl _), rfl, fun l q => by rw [I.tuple_inj q qa]; exact hu, fun l q => by rw [I.list_inj q qb]; exact hw'⟩,
      ⟨zz, up D.TIz (hk _ _ D.TIz D.TITO D.TIi1 D.TIi2 s2), ⟨y1, y2, up D.TOz z3⟩, t1.1.at fun o q => up D.i1z q, t2.1.at fun o q => up D.i2z q⟩, fun c hcm => ?_⟩
    have clt : c < s.heap.objs.size := by
      have hcm' := hcm
      simp only [List.mem_cons, List.mem_nil_iff, or_false] at hcm'
      rcases hcm' with rfl | rfl | rfl | rfl | rfl
      · exact zl
      · exact Heap.lt_size s2
      · exact Heap.lt_size s3
      · obtain ⟨_, e, _⟩ := s4; exact Heap.lt_size e
      · obtain ⟨_, e, _⟩ := s5; exact Heap.lt_size e
    rw [upd_ne (Nat.ne_of_lt clt)]
    exact (hf c hcm).1
  done := by
    intro X hP hw hK hc n pins s σ H E I hf st hg
    subst hP hw hK
    obtain ⟨s1, s2, ⟨u0, w0, s3⟩, s4, s5⟩ := st
    obtain ⟨us, ws, qa, qb, el, en⟩ := hg
    obtain ⟨la, va, ta, _⟩ := I.tuple qa
    obtain ⟨lb, vb, tb, _⟩ := I.list qb
    have l1 := va.length
    have l2 := vb.length
    have hh : X.A.in1.handled = none := I.ok.hd hc
    refine wpAny_pyNext_zipD2_end (sep_of D) (Draws.tuple hh j a D.l1i1 la.toArray) (Draws.list hh k b D.l2i2 lb.toArray) s1 s2 s3 ⟨s4, ta⟩ ⟨s5, tb.isList⟩ (by rw [List.size_toArray]; omega) (by rw [List.size_toArray]; omega) (.inl (by rw [List.size_toArray]; omega)) fun h' tk hk => ?_
    exact ⟨rfl, I.turnedL (t' := tk) (ch := [z, TI, TO, j, k]) (fun c o hb q => by
      simp only [List.mem_cons, List.mem_nil_iff, or_false, not_or] at hb
      exact hk c o hb.1 hb.2.2.1 hb.2.2.2.1 hb.2.2.2.2 q) hf⟩
  self := fun A n s Q E st h => wpAny_pyIter_zip st.1 h
def iZipM (K : PySem.W.Frag) (ta : TA) : TI := fun σ H R => ta σ H fun vs H1 => ∃ a b xs ys, vs = [.ref a, .ref b] ∧ ((SqT K H1 a xs ∧ SqL K H1 b ys ∧ R (ItzM K a b) H1) ∨ (SqT K H1 a xs ∧ SqT K H1 b ys ∧ R (RZ.ItzT K a b) H1))
theorem pi_zipM {X : Cx} {e e2 : Expr} {ta : TA} {p pos tp : Pos} {elts : List Expr} {kk : Nat} (hg : Gl X "zip") (hm : X.mg "zip" = none) (ha : PA X [e, e2] ta)
    (hs : starEach [e, e2] X.env = (false, eval e X.env) :: starEach [e2] X.env := by rfl) (hpl : (backTo pos (starEach [e2] X.env)).any (·.1) = false := by rfl) : PI X (.Tuple elts kk tp) (.Call (.Name "zip" p) [e, e2] [] pos) (iZipM X.K ta) := by
  refine ⟨fun pins s σ H R I h => Call_ (ld_blt I hg hm PyProof.Rows.boot_zip (PyProof.Rows.callWith_type1 (thn (ha.run pos pins s σ H _ I h) ?_) hs hpl))⟩
  rintro us s1 ⟨vs, H1, I1, r1, a, b, xs, ys, rfl, q1⟩
  obtain ⟨v1, v2, rfl, e1, e2⟩ := vals2 r1
  obtain rfl : v1 = Value.ref a := e1
  obtain rfl : v2 = Value.ref b := e2
  have fr : ∀ c, c ∈ [s1.heap.objs.size + 4, s1.heap.objs.size + 2, s1.heap.objs.size + 3, s1.heap.objs.size, s1.heap.objs.size + 1] → FpOk X pins H1 c := fun c m => by
    have le : s1.heap.objs.size ≤ c := by
      simp only [List.mem_cons, List.mem_nil_iff, or_false] at m
      omega
    exact I1.fpOk le (I1.hok.fresh le)
  rcases q1 with ⟨qa, qb, q⟩ | ⟨qa, qb, q⟩
  · obtain ⟨la, va, ta', _⟩ := I1.tuple qa
    obtain ⟨lb, vb, tb, _⟩ := I1.list qb
    obtain ⟨oa, hoa, _⟩ := id ta'
    refine zip_begins2 (begins_tuple a la.toArray) (begins_list b lb.toArray) ta' tb.isList fun h' z1 z2 z3 z4 z5 hsz hk => wpAny_pyIter_zip z1 ?_
    exact ⟨s1.heap.objs.size + 4, _, _, _, H1, rfl, I1.kept (t' := s1.toks) hk, turn_zipM (PySem.W.ktu_apart s1.heap.objs.size a b (Heap.lt_size hoa) tb.lt), ⟨z1, z2, ⟨_, _, z3⟩, ⟨_, z4, rfl, rfl⟩, ⟨_, z5, rfl, rfl⟩⟩, fr, q⟩
  · obtain ⟨la, va, ta', _⟩ := I1.tuple qa
    obtain ⟨lb, vb, tb, _⟩ := I1.tuple qb
    obtain ⟨oa, hoa, _⟩ := id ta'
    obtain ⟨ob, hob, _⟩ := id tb
    refine RZ.call_zipT (show s1.heap.IsTuple a la.toArray from ta') (show s1.heap.IsTuple b lb.toArray from tb) fun h' z1 z2 z3 z4 z5 hsz hk => wpAny_pyIter_zip z1 ?_
    exact ⟨s1.heap.objs.size + 4, _, _, _, H1, rfl, I1.kept (t' := s1.toks) hk, RZ.turn_zipT (PySem.W.ktu_apart s1.heap.objs.size a b (Heap.lt_size hoa) (Heap.lt_size hob)), ⟨z1, z2, ⟨_, _, z3⟩, z4, z5⟩, fr, q⟩
end HL

namespace HL
/-! rows that whole numbers of rows come to; rows brought to stairs; rests -/
def dotI (xs ys : List Int) : Int := ((xs.zip ys).map fun q => q.1 * q.2).sum
theorem dotI_nil {ys : List Int} : dotI [] ys = 0 := by
  unfold dotI
  rfl
theorem dotI_nil2 {xs : List Int} : dotI xs [] = 0 := by
  unfold dotI
  rw [List.zip_nil_right]
  rfl
theorem dotI_cons {x y : Int} {xs ys : List Int} : dotI (x :: xs) (y :: ys) = x * y + dotI xs ys := by
  unfold dotI
  rw [List.zip_cons_cons, List.map_cons, List.sum_cons]
theorem dotI_comm : ∀ {xs ys : List Int}, dotI xs ys = dotI ys xs
  | [], ys => by rw [dotI_nil, dotI_nil2]
  | _ :: _, [] => by rw [dotI_nil, dotI_nil2]
  | x :: xs, y :: ys => by rw [dotI_cons, dotI_cons, dotI_comm, Int.mul_comm]
theorem dot_sub : ∀ {b h p : List Int} {k : Int}, b.length = h.length → dotI (subR b h k) p = dotI b p - k * dotI h p
  | [], [], p, k, _ => by
    show dotI [] p = dotI [] p - k * dotI [] p
    rw [dotI_nil]
    omega
  | _ :: _, _ :: _, [], k, _ => by rw [dotI_nil2, dotI_nil2, dotI_nil2]; omega
  | x :: b, y :: h, z :: p, k, e => by
    have e' : b.length = h.length := by simpa using e
    rw [subR_cons, dotI_cons, dotI_cons, dotI_cons, dot_sub e']
    grind
  | [], _ :: _, _, _, e => by simp at e
  | _ :: _, [], _, _, e => by simp at e
theorem dot_rep {n : Nat} : ∀ {p : List Int}, dotI (List.replicate n 0) p = 0 := by
  induction n with
  | zero => exact dotI_nil
  | succ n ih =>
    intro p
    cases p with
    | nil => exact dotI_nil2
    | cons z p =>
      rw [List.replicate_succ, dotI_cons, ih]
      omega
theorem subR_get : ∀ {b h : List Int} {k : Int} {g : Nat}, b.length = h.length → (subR b h k).getD g 0 = b.getD g 0 - k * h.getD g 0
  | [], [], k, g, _ => by
    show ([] : List Int).getD g 0 = ([] : List Int).getD g 0 - k * ([] : List Int).getD g 0
    simp
  | x :: b, y :: h, k, 0, _ => rfl
  | x :: b, y :: h, k, g + 1, e => by
    have e' : b.length = h.length := by simpa using e
    rw [subR_cons, List.getD_cons_succ, List.getD_cons_succ, List.getD_cons_succ, subR_get e']
  | [], _ :: _, _, _, e => by simp at e
  | _ :: _, [], _, _, e => by simp at e
theorem sub_sub : ∀ {v u r : List Int} {k j : Int}, v.length = u.length → u.length = r.length → subR v (subR u r j) k = subR (subR v u k) r (-(k * j))
  | [], [], [], _, _, _, _ => rfl
  | x :: v, y :: u, z :: r, k, j, e1, e2 => by
    have e1' : v.length = u.length := by simpa using e1
    have e2' : u.length = r.length := by simpa using e2
    rw [subR_cons, subR_cons, subR_cons, subR_cons, sub_sub e1' e2']
    congr 1
    grind
  | [], _ :: _, _, _, _, e, _ => by simp at e
  | _ :: _, [], _, _, _, e, _ => by simp at e
  | [], [], _ :: _, _, _, _, e => by simp at e
  | _ :: _, _ :: _, [], _, _, _, e => by simp at e
theorem sub_unit : ∀ r : List Int, subR (List.replicate r.length 0) r (-1) = r
  | [] => rfl
  | x :: r => by
    rw [List.length_cons, List.replicate_succ, subR_cons, sub_unit r]
    congr 1
    omega
/-- all rows of a length -/
def Len (n : Nat) (rows : List (List Int)) : Prop := ∀ r ∈ rows, r.length = n
/-- what whole numbers of rows come to -/
inductive Lat (n : Nat) (rows : List (List Int)) : List Int → Prop
  | nil : Lat n rows (List.replicate n 0)
  | more {v r : List Int} (k : Int) : Lat n rows v → r ∈ rows → Lat n rows (subR v r k)
section
variable {n : Nat} {rows rows' : List (List Int)} {v u : List Int}
theorem Lat.len (hr : Len n rows) (h : Lat n rows v) : v.length = n := by
  induction h with
  | nil => exact List.length_replicate
  | more k h m ih => rw [subR_len (by rw [ih, hr _ m]), ih]
theorem Lat.sub (hr : Len n rows) (hv : Lat n rows v) (hu : Lat n rows u) (k : Int) : Lat n rows (subR v u k) := by
  induction hu with
  | nil =>
    rw [subR_nought (hv.len hr)]
    exact hv
  | more j h m ih =>
    rw [sub_sub (by rw [hv.len hr, h.len hr]) (by rw [h.len hr, hr _ m])]
    exact .more _ ih m
theorem Lat.one (hr : Len n rows) {r : List Int} (m : r ∈ rows) : Lat n rows r := by
  have e := sub_unit r
  rw [hr r m] at e
  rw [← e]
  exact .more _ .nil m
theorem Lat.mono (hr : Len n rows') (h : ∀ r ∈ rows, Lat n rows' r) (hv : Lat n rows v) : Lat n rows' v := by
  induction hv with
  | nil => exact .nil
  | more k _ m ih => exact ih.sub hr (h _ m) k
theorem Lat.dvd {x : List Int} {d : Int} (hr : Len n rows) (h : ∀ r ∈ rows, d ∣ dotI r x) (hv : Lat n rows v) : d ∣ dotI v x := by
  induction hv with
  | nil => rw [dot_rep]; exact Int.dvd_zero d
  | more k hv m ih =>
    rw [dot_sub (by rw [hv.len hr, hr _ m])]
    exact Int.dvd_sub ih (Int.dvd_mul_of_dvd_right (h _ m))
theorem Lat.at0 {g : Nat} (hr : Len n rows) (h : ∀ r ∈ rows, r.getD g 0 = 0) (hv : Lat n rows v) : v.getD g 0 = 0 := by
  induction hv with
  | nil => rw [List.getD_eq_getElem?_getD, List.getElem?_replicate]; split <;> rfl
  | more k hv m ih =>
    rw [subR_get (by rw [hv.len hr, hr _ m]), ih, h _ m]
    omega
end
/-- two lots of rows that come to the same -/
def SameLat (n : Nat) (A B : List (List Int)) : Prop := (∀ r ∈ A, Lat n B r) ∧ ∀ r ∈ B, Lat n A r
theorem SameLat.refl {n : Nat} {A : List (List Int)} (h : Len n A) : SameLat n A A := ⟨fun r m => .one h m, fun r m => .one h m⟩
theorem SameLat.trans {n : Nat} {A B C : List (List Int)} (hA : Len n A) (hC : Len n C) (h1 : SameLat n A B) (h2 : SameLat n B C) : SameLat n A C :=
  ⟨fun r m => Lat.mono hC h2.1 (h1.1 r m), fun r m => Lat.mono hA h1.2 (h2.2 r m)⟩
theorem SameLat.of_mem {n : Nat} {A B : List (List Int)} (hA : Len n A) (hB : Len n B) (h : ∀ r, r ∈ A ↔ r ∈ B) : SameLat n A B := ⟨fun r m => .one hB ((h r).mp m), fun r m => .one hA ((h r).mpr m)⟩
theorem SameLat.lat {n : Nat} {A B : List (List Int)} (hA : Len n A) (hB : Len n B) (h : SameLat n A B) {v : List Int} : Lat n A v ↔ Lat n B v := ⟨Lat.mono hB h.1, Lat.mono hA h.2⟩
/-! ### one row less another -/
/-- what is left at b's side of a -/
theorem fdiv_pos {a b : Int} (hb : 0 < b) : 0 ≤ a - a.fdiv b * b ∧ a - a.fdiv b * b < b := by
  rw [Int.fdiv_eq_ediv_of_nonneg _ (by omega)]
  have h1 := Int.emod_nonneg a (show b ≠ 0 by omega)
  have h2 := Int.emod_lt_of_pos a hb
  have h3 := Int.emod_def a b
  rw [Int.mul_comm] at h3
  omega
theorem fdiv_flip {a b : Int} : a.fdiv b = (-a).fdiv (-b) := by
  rw [Int.neg_fdiv_neg]
theorem fdiv_neg {a b : Int} (hb : b < 0) : b < a - a.fdiv b * b ∧ a - a.fdiv b * b ≤ 0 := by
  have h := fdiv_pos (a := -a) (b := -b) (by omega)
  rw [← fdiv_flip, Int.mul_neg] at h
  omega
/-- with a sign s: what is left is from 0 to below b -/
theorem fdiv_s {s a b : Int} (hs : s = 1 ∨ s = -1) (hb : 0 < s * b) : 0 ≤ s * (a - a.fdiv b * b) ∧ s * (a - a.fdiv b * b) < s * b := by
  rcases hs with rfl | rfl
  · have := fdiv_pos (a := a) (b := b) (by omega)
    omega
  · have := fdiv_neg (a := a) (b := b) (by omega)
    omega
end HL

namespace HL
/-! ### rows brought to one at a place: one turn -/
abbrev pz (p : Nat) (r : List Int) : Int := r.getD p 0
def Ent (M : Int) (r : List Int) : Prop := ∀ x ∈ r, -M ≤ x ∧ x ≤ M
theorem Ent.mono {M M' : Int} {r : List Int} (h : Ent M r) (le : M ≤ M') : Ent M' r := fun x hx => by
  have := h x hx
  omega
theorem Ent.at {M : Int} {r : List Int} (h : Ent M r) (h0 : 0 ≤ M) (p : Nat) : -M ≤ pz p r ∧ pz p r ≤ M := by
  unfold pz
  rw [List.getD_eq_getElem?_getD]
  cases e : r[p]? with
  | none => exact ⟨by show -M ≤ 0; omega, h0⟩
  | some x => exact h x (List.mem_of_getElem? e)
theorem sub_ent : ∀ {r l : List Int} {q M B t : Int}, 0 ≤ t → -t ≤ q → q ≤ t → 0 ≤ B → Ent M r → Ent B l → Ent (M + t * B) (subR r l q)
  | [], _, q, M, B, t, _, _, _, _, _, _ => fun x hx => by cases hx
  | _ :: _, [], q, M, B, t, _, _, _, _, _, _ => fun x hx => by cases hx
  | x :: r, y :: l, q, M, B, t, t0, q1, q2, b0, h1, h2 => fun z hz => by
    rw [subR_cons] at hz
    rcases List.mem_cons.mp hz with e | e
    · have hx := h1 x List.mem_cons_self
      have hy := h2 y List.mem_cons_self
      have k1 : q * y ≤ t * B := by
        rcases Int.le_total 0 y with c | c
        · exact Int.le_trans (Int.mul_le_mul_of_nonneg_right q2 c) (Int.mul_le_mul_of_nonneg_left hy.2 t0)
        · have h3 : (-q) * (-y) ≤ t * (-y) := Int.mul_le_mul_of_nonneg_right (by omega) (by omega)
          have h4 : t * (-y) ≤ t * B := Int.mul_le_mul_of_nonneg_left (by omega) t0
          rw [Int.neg_mul_neg] at h3
          omega
      have k2 : -(t * B) ≤ q * y := by
        rcases Int.le_total 0 y with c | c
        · have h3 : (-q) * y ≤ t * y := Int.mul_le_mul_of_nonneg_right (by omega) c
          have h4 : t * y ≤ t * B := Int.mul_le_mul_of_nonneg_left hy.2 t0
          rw [Int.neg_mul] at h3
          omega
        · have h3 : q * (-y) ≤ t * (-y) := Int.mul_le_mul_of_nonneg_right q2 (by omega)
          have h4 : t * (-y) ≤ t * B := Int.mul_le_mul_of_nonneg_left (by omega) t0
          rw [Int.mul_neg] at h3
          omega
      rw [e]
      omega
    · exact sub_ent t0 q1 q2 b0 (fun w hw => h1 w (List.mem_cons_of_mem _ hw)) (fun w hw => h2 w (List.mem_cons_of_mem _ hw)) z e
/-- a row less the least one, as often as that goes into it at p -/
def red (p : Nat) (l r : List Int) : List Int := subR r l ((pz p r).fdiv (pz p l))
theorem red_len {n p : Nat} {l r : List Int} (hl : l.length = n) (hr : r.length = n) : (red p l r).length = n := by
  unfold red
  rw [subR_len (by rw [hl, hr]), hr]
theorem red_at {n p : Nat} {l r : List Int} (hl : l.length = n) (hr : r.length = n) : pz p (red p l r) = pz p r - (pz p r).fdiv (pz p l) * pz p l := by
  unfold red
  exact subR_get (by rw [hl, hr])
theorem absI_eq (z : Int) : absI z = z ∧ 0 ≤ z ∨ absI z = -z ∧ z < 0 := by
  unfold absI
  split
  · exact .inr ⟨rfl, by omega⟩
  · exact .inl ⟨rfl, by omega⟩
/-- the numbers at p, all of one sign s -/
theorem red_s {n p : Nat} {l r : List Int} {s : Int} (hl : l.length = n) (hr : r.length = n) (hs : s = 1 ∨ s = -1) (hb : 0 < s * pz p l) : 0 ≤ s * pz p (red p l r) ∧ s * pz p (red p l r) < s * pz p l := by
  rw [red_at hl hr]
  exact fdiv_s hs hb
/-- one of the same sign that is no less: how often, and what is left -/
theorem quot_s {s a b A : Int} (hs : s = 1 ∨ s = -1) (hb : 0 < s * b) (hab : s * b ≤ s * a) (hA : s * a ≤ A) : 0 ≤ a.fdiv b ∧ a.fdiv b ≤ A / (s * b) ∧ s * (a - a.fdiv b * b) ≤ A - s * b := by
  have h := fdiv_s (a := a) hs hb
  have e : s * (a - a.fdiv b * b) = s * a - a.fdiv b * (s * b) := by rw [Int.mul_sub, Int.mul_left_comm]
  rw [e] at h ⊢
  generalize a.fdiv b = q at h ⊢
  generalize s * b = c at *
  have q1 : 1 ≤ q := by
    rcases Int.lt_or_le q 1 with z | z
    · exfalso
      have : q * c ≤ 0 * c := Int.mul_le_mul_of_nonneg_right (by omega) (by omega)
      omega
    · exact z
  have q2 : 1 * c ≤ q * c := Int.mul_le_mul_of_nonneg_right q1 (by omega)
  refine ⟨by omega, Int.le_ediv_of_mul_le hb (by omega), by omega⟩
/-- one of any sign: how often -/
theorem quot_any {a b M : Int} (hb : b ≠ 0) (h1 : -M ≤ a) (h2 : a ≤ M) : -(M + 1) ≤ a.fdiv b ∧ a.fdiv b ≤ M + 1 := by
  have key : ∀ {a b : Int}, 0 < b → -M ≤ a → a ≤ M → -(M + 1) ≤ a.fdiv b ∧ a.fdiv b ≤ M + 1 := fun {a b} hb h1 h2 => by
    have h := fdiv_pos (a := a) hb
    generalize a.fdiv b = q at h
    constructor
    · rcases Int.lt_or_le q (-(M + 1)) with z | z
      · exfalso
        have : q * b ≤ (-(M + 1) - 1) * b := Int.mul_le_mul_of_nonneg_right (by omega) (by omega)
        have e : (-(M + 1) - 1) * b = -(M + 1) * b - b := by rw [Int.sub_mul, Int.one_mul]
        have e2 : (-(M + 1)) * b ≤ (-(M + 1)) * 1 := by
          have : (M + 1) * 1 ≤ (M + 1) * b := Int.mul_le_mul_of_nonneg_left (by omega) (by omega)
          rw [Int.neg_mul, Int.neg_mul]
          omega
        omega
      · exact z
    · rcases Int.lt_or_le (M + 1) q with z | z
      · exfalso
        have : (M + 1) * b ≤ q * b := Int.mul_le_mul_of_nonneg_right (by omega) (by omega)
        have : (M + 1) * 1 ≤ (M + 1) * b := Int.mul_le_mul_of_nonneg_left (by omega) (by omega)
        omega
      · exact z
  rcases Int.lt_or_gt_of_ne hb with c | c
  · rw [fdiv_flip]
    exact key (by omega) (by omega) (by omega)
  · exact key c h1 h2
/-! ### how great rows get -/
/-- the bound of what comes of rows to M -/
abbrev big (M : Int) : Int := 6 * (M * M * M * (M * M * M))
theorem pos_mul {a b : Int} (ha : 1 ≤ a) (hb : 1 ≤ b) : 1 ≤ a * b := by
  have : 1 * 1 ≤ a * b := Int.mul_le_mul ha hb (by decide) (by omega)
  omega
theorem le_mul_r {a b : Int} (ha : 0 ≤ a) (hb : 1 ≤ b) : a ≤ a * b := by
  have : a * 1 ≤ a * b := Int.mul_le_mul_of_nonneg_left hb ha
  omega
/-- where all are of one sign: the next turn's numbers -/
theorem next_pot {M A b c : Int} (hM : 1 ≤ M) (hb : 1 ≤ b) (hc : 1 ≤ c) (hbA : b ≤ A) (hcb : c ≤ b) (hcA : c ≤ A - b) :
    M * (1 + A / b) * (b * b) * (c * c) ≤ M * (A * A) * (b * b) := by
  have t0 : 0 ≤ A / b := Int.ediv_nonneg (by omega) (by omega)
  have t1 : b * (A / b) ≤ A := Int.mul_ediv_self_le (by omega)
  generalize A / b = t at t0 t1
  have k1 : (1 + t) * (c * c) ≤ (1 + t) * (b * c) := Int.mul_le_mul_of_nonneg_left (Int.mul_le_mul_of_nonneg_right hcb (by omega)) (by omega)
  have k2 : (1 + t) * (b * c) = (b + b * t) * c := by grind
  have k3 : (b + b * t) * c ≤ (A + A) * c := Int.mul_le_mul_of_nonneg_right (by omega) (by omega)
  have k4 : (A + A) * c = A * (c + c) := by grind
  have k5 : A * (c + c) ≤ A * A := Int.mul_le_mul_of_nonneg_left (by omega) (by omega)
  have k6 : (1 + t) * (c * c) ≤ A * A := by omega
  have k7 : M * (1 + t) * (b * b) * (c * c) = (M * (b * b)) * ((1 + t) * (c * c)) := by grind
  have k8 : M * (A * A) * (b * b) = (M * (b * b)) * (A * A) := by grind
  rw [k7, k8]
  have := pos_mul hM (pos_mul hb hb)
  exact Int.mul_le_mul_of_nonneg_left k6 (by omega)
theorem next_big {M A b E : Int} (hM : 1 ≤ M) (hb : 1 ≤ b) (hbA : b ≤ A) (h : M * (A * A) * (b * b) ≤ E) : M * (1 + A / b) ≤ 2 * E := by
  have t0 : 0 ≤ A / b := Int.ediv_nonneg (by omega) (by omega)
  have t1 : A / b ≤ A := Int.ediv_le_self b (by omega)
  have k1 : M * (1 + A / b) ≤ M * (A + A) := Int.mul_le_mul_of_nonneg_left (by omega) (by omega)
  have k2 : M * (A + A) = 2 * (M * A) := by grind
  have k3 : M * A ≤ M * A * A := le_mul_r (by have := pos_mul hM (show 1 ≤ A by omega); omega) (by omega)
  have k4 : M * (A * A) ≤ M * (A * A) * (b * b) := le_mul_r (by have := pos_mul hM (pos_mul (show 1 ≤ A by omega) (show 1 ≤ A by omega)); omega) (pos_mul hb hb)
  have k5 : M * A * A = M * (A * A) := Int.mul_assoc _ _ _
  omega
theorem first_pot {M b c : Int} (hM : 1 ≤ M) (hb : 1 ≤ b) (hc : 1 ≤ c) (hbM : b ≤ M) (hcM : c ≤ M) : 3 * (M * M) * (b * b) * (c * c) ≤ 3 * (M * M * M * (M * M * M)) := by
  have k1 : b * b ≤ M * M := Int.mul_le_mul hbM hbM (by omega) (by omega)
  have k2 : c * c ≤ M * M := Int.mul_le_mul hcM hcM (by omega) (by omega)
  have k3 : (b * b) * (c * c) ≤ (M * M) * (M * M) := Int.mul_le_mul k1 k2 (by have := pos_mul hc hc; omega) (by have := pos_mul hM hM; omega)
  have k4 : 3 * (M * M) * (b * b) * (c * c) = 3 * (M * M) * ((b * b) * (c * c)) := by grind
  have k5 : 3 * (M * M * M * (M * M * M)) = 3 * (M * M) * ((M * M) * (M * M)) := by grind
  rw [k4, k5]
  exact Int.mul_le_mul_of_nonneg_left k3 (by have := pos_mul hM hM; omega)
theorem first_big {M : Int} (hM : 1 ≤ M) : M + (M + 1) * M ≤ 3 * (M * M) ∧ 3 * (M * M) ≤ big M ∧ M ≤ big M := by
  have h1 := pos_mul hM hM
  have h2 : M ≤ M * M := le_mul_r (by omega) hM
  have h3 : M * M ≤ M * M * (M * M) := le_mul_r (by omega) h1
  have h4 : M * M * (M * M) ≤ M * M * (M * M) * (M * M) := le_mul_r (by omega) h1
  have e : M * M * (M * M) * (M * M) = M * M * M * (M * M * M) := by grind
  have e2 : (M + 1) * M = M * M + M := by grind
  show _ ∧ _ ≤ 6 * (M * M * M * (M * M * M)) ∧ _ ≤ 6 * (M * M * M * (M * M * M))
  omega
/-- rows on the way: nought at none of them; at first to M, later of one sign -/
structure Red (n p : Nat) (M0 : Int) (at_ : List (List Int)) : Prop where
  len : Len n at_
  nz : ∀ r ∈ at_, pz p r ≠ 0
  st : (∀ r ∈ at_, Ent M0 r) ∨ ∃ s M A : Int, (s = 1 ∨ s = -1) ∧ 1 ≤ M ∧ M ≤ big M0 ∧ (∀ r ∈ at_, Ent M r ∧ 0 < s * pz p r ∧ s * pz p r ≤ A) ∧ (2 ≤ at_.length → ∃ r ∈ at_, M * (A * A) * (s * pz p r * (s * pz p r)) ≤ 3 * (M0 * M0 * M0 * (M0 * M0 * M0)))
theorem Red.ent {n p : Nat} {M0 : Int} {at_ : List (List Int)} (h : Red n p M0 at_) (hM : 1 ≤ M0) : ∀ r ∈ at_, Ent (big M0) r := fun r hr => by
  rcases h.st with z | ⟨s, M, A, _, _, h2, h3, _⟩
  · exact (z r hr).mono (first_big hM).2.2
  · exact (h3 r hr).1.mono h2
def msr (p : Nat) (l : List (List Int)) : Nat := (l.map fun r => (pz p r).natAbs).sum
def isNz (p : Nat) (r : List Int) : Bool := decide (pz p r ≠ 0)
theorem step_red {n p : Nat} {M0 : Int} {at_ rest : List (List Int)} {l : List Int} (hM : 1 ≤ M0) (h : Red n p M0 at_) (h2 : 2 ≤ at_.length) (hp : (l :: rest).Perm at_) (hl : ∀ r ∈ rest, absI (pz p l) ≤ absI (pz p r)) :
    Red n p M0 (l :: (rest.map (red p l)).filter (isNz p)) ∧ ∀ r ∈ rest.map (red p l), r.length = n ∧ Ent (big M0) r := by
  have ml : l ∈ at_ := hp.mem_iff.mp List.mem_cons_self
  have mr : ∀ r ∈ rest, r ∈ at_ := fun r hr => hp.mem_iff.mp (List.mem_cons_of_mem _ hr)
  have ll := h.len l ml
  have lr : ∀ r ∈ rest, r.length = n := fun r hr => h.len r (mr r hr)
  have nl := h.nz l ml
  -- a sign, a bound, what is left
  have key : ∃ s M : Int, (s = 1 ∨ s = -1) ∧ 0 < s * pz p l ∧ 1 ≤ M ∧ M ≤ big M0 ∧ Ent M l ∧ (∀ r ∈ rest, Ent M (red p l r)) ∧
      ∀ r ∈ rest, pz p (red p l r) ≠ 0 → M * (s * pz p l * (s * pz p l)) * (s * pz p (red p l r) * (s * pz p (red p l r))) ≤ 3 * (M0 * M0 * M0 * (M0 * M0 * M0)) := by
    rcases h.st with z | ⟨s, M, A, hs, hM1, hMb, hr, hpot⟩
    · obtain ⟨f1, f2, f3⟩ := first_big hM
      have hla := (z l ml).at (by omega) p
      obtain ⟨s, hs, hsl⟩ : ∃ s : Int, (s = 1 ∨ s = -1) ∧ 0 < s * pz p l := by
        rcases Int.lt_or_gt_of_ne nl with c | c
        · exact ⟨-1, .inr rfl, by omega⟩
        · exact ⟨1, .inl rfl, by omega⟩
      refine ⟨s, 3 * (M0 * M0), hs, hsl, by have := pos_mul hM hM; omega, f2, (z l ml).mono ?_, fun r hr => ?_, fun r hr hn => ?_⟩
      · have : M0 ≤ M0 * M0 := le_mul_r (by omega) hM
        omega
      · have hra := (z r (mr r hr)).at (by omega) p
        obtain ⟨q1, q2⟩ := quot_any nl hra.1 hra.2
        exact (sub_ent (t := M0 + 1) (by omega) q1 q2 (by omega) (z r (mr r hr)) (z l ml)).mono f1
      · obtain ⟨r1, r2⟩ := red_s ll (lr r hr) hs hsl
        have r3 : s * pz p (red p l r) ≠ 0 := by
          rcases hs with rfl | rfl <;> omega
        have hlM : s * pz p l ≤ M0 := by
          rcases hs with rfl | rfl <;> omega
        exact first_pot hM (by omega) (by omega) hlM (by omega)
    · obtain ⟨el, sl, lA⟩ := hr l ml
      obtain ⟨r0, hr0, pot0⟩ := hpot h2
      have lmin : s * pz p l ≤ s * pz p r0 := by
        rcases List.mem_cons.mp (hp.mem_iff.mpr hr0) with e | e
        · rw [e]
          exact Int.le_refl _
        · have h3 := hl r0 e
          have h4 := (hr r0 hr0).2.1
          rcases absI_eq (pz p l) with ⟨a1, a2⟩ | ⟨a1, a2⟩ <;> rcases absI_eq (pz p r0) with ⟨a3, a4⟩ | ⟨a3, a4⟩ <;> rcases hs with rfl | rfl <;> omega
      have pot : M * (A * A) * (s * pz p l * (s * pz p l)) ≤ 3 * (M0 * M0 * M0 * (M0 * M0 * M0)) := by
        refine Int.le_trans (Int.mul_le_mul_of_nonneg_left (Int.mul_le_mul lmin lmin (by omega) (by omega)) ?_) pot0
        have := pos_mul hM1 (pos_mul (show 1 ≤ A by omega) (show 1 ≤ A by omega))
        omega
      have t0 : 0 ≤ A / (s * pz p l) := Int.ediv_nonneg (by omega) (by omega)
      refine ⟨s, M * (1 + A / (s * pz p l)), hs, sl, pos_mul hM1 (by omega), ?_, el.mono (le_mul_r (by omega) (by omega)), fun r hr' => ?_, fun r hr' hn => ?_⟩
      · have := next_big hM1 (show 1 ≤ s * pz p l by omega) lA pot
        show _ ≤ 6 * _
        omega
      · obtain ⟨er, sr, rA⟩ := hr r (mr r hr')
        have rmin : s * pz p l ≤ s * pz p r := by
          have h3 := hl r hr'
          rcases absI_eq (pz p l) with ⟨a1, a2⟩ | ⟨a1, a2⟩ <;> rcases absI_eq (pz p r) with ⟨a3, a4⟩ | ⟨a3, a4⟩ <;> rcases hs with rfl | rfl <;> omega
        obtain ⟨q1, q2, _⟩ := quot_s hs sl rmin rA
        refine (sub_ent (t := A / (s * pz p l)) t0 (by omega) q2 (by omega) er el).mono ?_
        rw [Int.mul_add, Int.mul_one, Int.mul_comm M]
        exact Int.le_refl _
      · obtain ⟨er, sr, rA⟩ := hr r (mr r hr')
        have rmin : s * pz p l ≤ s * pz p r := by
          have h3 := hl r hr'
          rcases absI_eq (pz p l) with ⟨a1, a2⟩ | ⟨a1, a2⟩ <;> rcases absI_eq (pz p r) with ⟨a3, a4⟩ | ⟨a3, a4⟩ <;> rcases hs with rfl | rfl <;> omega
        obtain ⟨_, _, q3⟩ := quot_s hs sl rmin rA
        rw [← red_at ll (lr r hr')] at q3
        obtain ⟨r1, r2⟩ := red_s ll (lr r hr') hs sl
        have r3 : s * pz p (red p l r) ≠ 0 := by
          rcases hs with rfl | rfl <;> omega
        exact Int.le_trans (next_pot hM1 (by omega) (by omega) lA (by omega) q3) pot
  obtain ⟨s, M, hs, hsl, hM1, hMb, el, er, pot⟩ := key
  refine ⟨⟨fun r hr => ?_, fun r hr => ?_, .inr ⟨s, M, s * pz p l, hs, hM1, hMb, fun r hr => ?_, fun h3 => ?_⟩⟩, fun r hr => ?_⟩
  · rcases List.mem_cons.mp hr with e | e
    · rw [e]; exact ll
    · obtain ⟨r', hr', rfl⟩ := List.mem_map.mp (List.mem_filter.mp e).1
      exact red_len ll (lr r' hr')
  · rcases List.mem_cons.mp hr with e | e
    · rw [e]; exact nl
    · exact of_decide_eq_true (List.mem_filter.mp e).2
  · rcases List.mem_cons.mp hr with e | e
    · rw [e]; exact ⟨el, hsl, Int.le_refl _⟩
    · obtain ⟨r', hr', rfl⟩ := List.mem_map.mp (List.mem_filter.mp e).1
      obtain ⟨r1, r2⟩ := red_s ll (lr r' hr') hs hsl
      have hn : pz p (red p l r') ≠ 0 := of_decide_eq_true (List.mem_filter.mp e).2
      refine ⟨er r' hr', ?_, by omega⟩
      rcases hs with rfl | rfl <;> omega
  · obtain ⟨x, hx⟩ : ∃ x, x ∈ (rest.map (red p l)).filter (isNz p) := by
      cases e : (rest.map (red p l)).filter (isNz p) with
      | nil => rw [e] at h3; simp at h3
      | cons x xs => exact ⟨x, List.mem_cons_self⟩
    refine ⟨x, List.mem_cons_of_mem _ hx, ?_⟩
    obtain ⟨r', hr', rfl⟩ := List.mem_map.mp (List.mem_filter.mp hx).1
    exact pot r' hr' (of_decide_eq_true (List.mem_filter.mp hx).2)
  · obtain ⟨r', hr', rfl⟩ := List.mem_map.mp hr
    exact ⟨red_len ll (lr r' hr'), (er r' hr').mono hMb⟩
end HL

namespace HL
/-! ### the turns end, and come to the same -/
theorem sum_lt {α : Type} {f g : α → Nat} : ∀ {l : List α}, l ≠ [] → (∀ x ∈ l, f x < g x) → (l.map f).sum < (l.map g).sum
  | [x], _, h => by
    have := h x List.mem_cons_self
    simpa using this
  | x :: y :: l, _, h => by
    have h1 := h x List.mem_cons_self
    have h2 := sum_lt (l := y :: l) (by simp) fun z hz => h z (List.mem_cons_of_mem _ hz)
    simp only [List.map_cons, List.sum_cons] at h2 ⊢
    omega
theorem sum_filter {α : Type} {f : α → Nat} {p : α → Bool} : ∀ {l : List α}, ((l.filter p).map f).sum ≤ (l.map f).sum
  | [] => Nat.le_refl _
  | x :: l => by
    have := sum_filter (f := f) (p := p) (l := l)
    by_cases c : p x = true
    · rw [List.filter_cons_of_pos c, List.map_cons, List.map_cons, List.sum_cons, List.sum_cons]
      omega
    · rw [List.filter_cons_of_neg c, List.map_cons, List.sum_cons]
      omega
theorem red_less {n p : Nat} {l r : List Int} (hl : l.length = n) (hr : r.length = n) (nl : pz p l ≠ 0) : (pz p (red p l r)).natAbs < (pz p l).natAbs := by
  rcases Int.lt_or_gt_of_ne nl with c | c
  · have := red_s (p := p) (s := -1) hl hr (.inr rfl) (by omega)
    omega
  · have := red_s (p := p) (s := 1) hl hr (.inl rfl) (by omega)
    omega
theorem step_msr {n p : Nat} {M0 : Int} {at_ rest : List (List Int)} {l : List Int} (h : Red n p M0 at_) (h2 : 2 ≤ at_.length) (hp : (l :: rest).Perm at_) (hl : ∀ r ∈ rest, absI (pz p l) ≤ absI (pz p r)) :
    msr p (l :: (rest.map (red p l)).filter (isNz p)) < msr p at_ := by
  have ml : l ∈ at_ := hp.mem_iff.mp List.mem_cons_self
  have mr : ∀ r ∈ rest, r ∈ at_ := fun r hr => hp.mem_iff.mp (List.mem_cons_of_mem _ hr)
  have e : msr p at_ = msr p (l :: rest) := by
    unfold msr
    exact (hp.map _).sum_nat.symm
  have hne : rest ≠ [] := fun z => by
    have := hp.length_eq
    rw [z] at this
    simp at this
    omega
  rw [e]
  unfold msr
  rw [List.map_cons, List.map_cons, List.sum_cons, List.sum_cons]
  have k1 := sum_filter (f := fun r => (pz p r).natAbs) (p := isNz p) (l := rest.map (red p l))
  rw [List.map_map] at k1
  have k2 := sum_lt (f := (fun r => (pz p r).natAbs) ∘ red p l) (g := fun r => (pz p r).natAbs) hne fun r hr => by
    have h1 := red_less (h.len l ml) (h.len r (mr r hr)) (h.nz l ml)
    have h3 := hl r hr
    show (pz p (red p l r)).natAbs < (pz p r).natAbs
    rcases absI_eq (pz p l) with ⟨a1, a2⟩ | ⟨a1, a2⟩ <;> rcases absI_eq (pz p r) with ⟨a3, a4⟩ | ⟨a3, a4⟩ <;> omega
  omega
theorem red_back {n p : Nat} {l r : List Int} (hl : l.length = n) (hr : r.length = n) : subR (red p l r) l (-((pz p r).fdiv (pz p l))) = r := by
  unfold red
  rw [subR_add, Int.add_right_neg, subR_zero (by rw [hl, hr])]
theorem step_lat {n p : Nat} {at_ rest oth : List (List Int)} {l : List Int} (hA : Len n at_) (hO : Len n oth) (hp : (l :: rest).Perm at_) :
    SameLat n (at_ ++ oth) ((l :: (rest.map (red p l)).filter (isNz p)) ++ (oth ++ (rest.map (red p l)).filter fun r => !isNz p r)) := by
  have ml : l ∈ at_ := hp.mem_iff.mp List.mem_cons_self
  have mr : ∀ r ∈ rest, r ∈ at_ := fun r hr => hp.mem_iff.mp (List.mem_cons_of_mem _ hr)
  have ll := hA l ml
  have hL1 : Len n (at_ ++ oth) := fun r hr => (List.mem_append.mp hr).elim (hA r) (hO r)
  have hred : ∀ r ∈ rest.map (red p l), r.length = n := fun r hr => by
    obtain ⟨r', hr', rfl⟩ := List.mem_map.mp hr
    exact red_len ll (hA r' (mr r' hr'))
  have hL2 : Len n ((l :: (rest.map (red p l)).filter (isNz p)) ++ (oth ++ (rest.map (red p l)).filter fun r => !isNz p r)) := fun r hr => by
    rcases List.mem_append.mp hr with z | z
    · rcases List.mem_cons.mp z with e | e
      · rw [e]; exact ll
      · exact hred r (List.mem_filter.mp e).1
    · rcases List.mem_append.mp z with e | e
      · exact hO r e
      · exact hred r (List.mem_filter.mp e).1
  have inB : ∀ r ∈ rest.map (red p l), r ∈ (l :: (rest.map (red p l)).filter (isNz p)) ++ (oth ++ (rest.map (red p l)).filter fun r => !isNz p r) := fun r hr => by
    cases c : isNz p r with
    | true => exact List.mem_append_left _ (List.mem_cons_of_mem _ (List.mem_filter.mpr ⟨hr, c⟩))
    | false => exact List.mem_append_right _ (List.mem_append_right _ (List.mem_filter.mpr ⟨hr, by simp [c]⟩))
  have lB : Lat n ((l :: (rest.map (red p l)).filter (isNz p)) ++ (oth ++ (rest.map (red p l)).filter fun r => !isNz p r)) l := .one hL2 (List.mem_append_left _ List.mem_cons_self)
  constructor
  · intro r hr
    rcases List.mem_append.mp hr with z | z
    · rcases List.mem_cons.mp (hp.mem_iff.mpr z) with e | e
      · rw [e]
        exact lB
      · have := (Lat.one hL2 (inB (red p l r) (List.mem_map.mpr ⟨r, e, rfl⟩))).sub hL2 lB (-((pz p r).fdiv (pz p l)))
        rw [red_back ll (hA r z)] at this
        exact this
    · exact .one hL2 (List.mem_append_right _ (List.mem_append_left _ z))
  · have lA : Lat n (at_ ++ oth) l := .one hL1 (List.mem_append_left _ ml)
    have redA : ∀ r ∈ rest.map (red p l), Lat n (at_ ++ oth) r := fun r hr => by
      obtain ⟨r', hr', rfl⟩ := List.mem_map.mp hr
      exact (Lat.one hL1 (List.mem_append_left _ (mr r' hr'))).sub hL1 lA _
    intro r hr
    rcases List.mem_append.mp hr with z | z
    · rcases List.mem_cons.mp z with e | e
      · rw [e]; exact lA
      · exact redA r (List.mem_filter.mp e).1
    · rcases List.mem_append.mp z with e | e
      · exact .one hL1 (List.mem_append_right _ e)
      · exact redA r (List.mem_filter.mp e).1
/-! ### with_one_at: the loop -/
structure WInv (n p : Nat) (M : Int) (rows at_ oth : List (List Int)) : Prop where
  rd : Red n p M at_
  len : Len n oth
  zero : ∀ r ∈ oth, pz p r = 0
  same : SameLat n rows (at_ ++ oth)
  count : at_.length + oth.length = rows.length
  ent : (∀ r ∈ at_ ++ oth, Ent M r) ∨ (2 ≤ rows.length ∧ 1 ≤ at_.length ∧ ∀ r ∈ at_ ++ oth, Ent (big M) r)
theorem WInv.lenA {n p : Nat} {M : Int} {rows at_ oth : List (List Int)} (h : WInv n p M rows at_ oth) : Len n (at_ ++ oth) := fun r hr => (List.mem_append.mp hr).elim (h.rd.len r) (h.len r)
theorem filter_count {α : Type} {p : α → Bool} : ∀ {l : List α}, (l.filter p).length + (l.filter fun x => !p x).length = l.length
  | [] => rfl
  | x :: l => by
    have := filter_count (p := p) (l := l)
    cases c : p x with
    | true =>
      rw [List.filter_cons_of_pos c, List.filter_cons_of_neg (by simp [c]), List.length_cons, List.length_cons]
      omega
    | false =>
      rw [List.filter_cons_of_neg (by simp [c]), List.filter_cons_of_pos (by simp [c]), List.length_cons, List.length_cons]
      omega
theorem WInv.start {n p : Nat} {M : Int} {rows : List (List Int)} (hL : Len n rows) (hE : ∀ r ∈ rows, Ent M r) : WInv n p M rows (rows.filter (isNz p)) (rows.filter fun r => !isNz p r) := by
  have mA : ∀ r ∈ rows.filter (isNz p), r ∈ rows := fun r hr => (List.mem_filter.mp hr).1
  have mO : ∀ r ∈ rows.filter (fun r => !isNz p r), r ∈ rows := fun r hr => (List.mem_filter.mp hr).1
  have hLA : Len n (rows.filter (isNz p) ++ rows.filter fun r => !isNz p r) := fun r hr => (List.mem_append.mp hr).elim (fun z => hL r (mA r z)) (fun z => hL r (mO r z))
  refine ⟨⟨fun r hr => hL r (mA r hr), fun r hr => of_decide_eq_true (List.mem_filter.mp hr).2, .inl fun r hr => hE r (mA r hr)⟩, fun r hr => hL r (mO r hr), fun r hr => ?_, SameLat.of_mem hL hLA fun r => ⟨fun hr => ?_, fun hr => (List.mem_append.mp hr).elim (mA r) (mO r)⟩, filter_count,
    .inl fun r hr => (List.mem_append.mp hr).elim (fun z => hE r (mA r z)) (fun z => hE r (mO r z))⟩
  · have := (List.mem_filter.mp hr).2
    by_cases c : pz p r = 0
    · exact c
    · unfold isNz at this
      rw [decide_eq_true c] at this
      cases this
  · cases c : isNz p r with
    | true => exact List.mem_append_left _ (List.mem_filter.mpr ⟨hr, c⟩)
    | false => exact List.mem_append_right _ (List.mem_filter.mpr ⟨hr, by simp [c]⟩)
theorem WInv.step {n p : Nat} {M : Int} {rows at_ oth rest : List (List Int)} {l : List Int} (hM : 1 ≤ M) (hR : Len n rows) (h : WInv n p M rows at_ oth) (h2 : 2 ≤ at_.length) (hp : (l :: rest).Perm at_) (hl : ∀ r ∈ rest, absI (pz p l) ≤ absI (pz p r)) :
    WInv n p M rows (l :: (rest.map (red p l)).filter (isNz p)) (oth ++ (rest.map (red p l)).filter fun r => !isNz p r) := by
  obtain ⟨s1, s2⟩ := step_red hM h.rd h2 hp hl
  have hLO : Len n (oth ++ (rest.map (red p l)).filter fun r => !isNz p r) := fun r hr => (List.mem_append.mp hr).elim (h.len r) (fun z => (s2 r (List.mem_filter.mp z).1).1)
  have hLB : Len n ((l :: (rest.map (red p l)).filter (isNz p)) ++ (oth ++ (rest.map (red p l)).filter fun r => !isNz p r)) := fun r hr => (List.mem_append.mp hr).elim (s1.len r) (hLO r)
  have eO : ∀ r ∈ oth, Ent (big M) r := fun r hr => by
    rcases h.ent with z | ⟨_, _, z⟩
    · exact (z r (List.mem_append_right _ hr)).mono (first_big hM).2.2
    · exact z r (List.mem_append_right _ hr)
  refine ⟨s1, hLO, fun r hr => ?_, h.same.trans hR hLB (step_lat h.rd.len h.len hp), ?_, .inr ⟨by have := h.count; omega, by rw [List.length_cons]; omega, fun r hr => ?_⟩⟩
  · rcases List.mem_append.mp hr with z | z
    · exact h.zero r z
    · have := (List.mem_filter.mp z).2
      by_cases c : pz p r = 0
      · exact c
      · unfold isNz at this
        rw [decide_eq_true c] at this
        cases this
  · have e1 := filter_count (p := isNz p) (l := rest.map (red p l))
    have e2 := hp.length_eq
    have e3 := h.count
    rw [List.length_map] at e1
    rw [List.length_cons] at e2 ⊢
    rw [List.length_append]
    omega
  · rcases List.mem_append.mp hr with z | z
    · exact s1.ent hM r z
    · rcases List.mem_append.mp z with e | e
      · exact eO r e
      · exact (s2 r (List.mem_filter.mp e).1).2
/-- what with_one_at tells -/
structure OneAt (n p : Nat) (M : Int) (rows at_ oth : List (List Int)) : Prop where
  one : at_.length ≤ 1
  lenA : Len n at_
  lenO : Len n oth
  nz : ∀ r ∈ at_, pz p r ≠ 0
  zero : ∀ r ∈ oth, pz p r = 0
  same : SameLat n rows (at_ ++ oth)
  count : at_.length + oth.length = rows.length
  ent : (∀ r ∈ at_ ++ oth, Ent M r) ∨ (2 ≤ rows.length ∧ at_.length = 1 ∧ ∀ r ∈ at_ ++ oth, Ent (big M) r)
theorem WInv.done {n p : Nat} {M : Int} {rows at_ oth : List (List Int)} (h : WInv n p M rows at_ oth) (h1 : at_.length ≤ 1) : OneAt n p M rows at_ oth :=
  ⟨h1, h.rd.len, h.len, h.rd.nz, h.zero, h.same, h.count, h.ent.imp id fun ⟨c, a, b⟩ => ⟨c, by omega, b⟩⟩
/-! ### stairs -/
structure Ech (n : Nat) (st : List (Nat × List Int)) : Prop where
  rise : st.Pairwise fun a b => a.1 < b.1
  ok : ∀ q ∈ st, q.1 < n ∧ q.2.length = n ∧ pz q.1 q.2 ≠ 0 ∧ ∀ j, j < q.1 → pz j q.2 = 0
theorem Ech.tail {n : Nat} {q : Nat × List Int} {st : List (Nat × List Int)} (h : Ech n (q :: st)) : Ech n st := ⟨(List.pairwise_cons.mp h.rise).2, fun x hx => h.ok x (List.mem_cons_of_mem _ hx)⟩
/-- the product of the numbers at which stairs begin -/
def whole (st : List (Nat × List Int)) : Int := st.foldl (fun w q => w * absI (pz q.1 q.2)) 1
theorem foldl_mul : ∀ {l : List (Nat × List Int)} {a : Int}, l.foldl (fun w q => w * absI (pz q.1 q.2)) a = a * whole l
  | [], a => by show a = a * 1; omega
  | q :: l, a => by
    unfold whole
    rw [List.foldl_cons, List.foldl_cons, foldl_mul, foldl_mul (a := 1 * _)]
    grind
theorem whole_cons {q : Nat × List Int} {st : List (Nat × List Int)} : whole (q :: st) = absI (pz q.1 q.2) * whole st := by
  show List.foldl _ (1 * absI (pz q.1 q.2)) st = _
  rw [foldl_mul, Int.one_mul]
theorem whole_pos {n : Nat} : ∀ {st : List (Nat × List Int)}, Ech n st → 1 ≤ whole st
  | [], _ => Int.le_refl _
  | q :: st, h => by
    rw [whole_cons]
    refine pos_mul ?_ (whole_pos h.tail)
    have := (h.ok q List.mem_cons_self).2.2.1
    rcases absI_eq (pz q.1 q.2) with ⟨a, b⟩ | ⟨a, b⟩ <;> omega
/-- a row that comes to the sums with each stair, begun otherwise as told -/
def comeTo : List (Nat × List Int) → List Int → List Int → List Int
  | [], _, x => x
  | q :: st, ss, x => (comeTo st ss.tail x).set q.1 ((ss.headD 0 - dotI q.2 (comeTo st ss.tail x)).fdiv (pz q.1 q.2))
theorem come_len : ∀ {st : List (Nat × List Int)} {ss x : List Int}, (comeTo st ss x).length = x.length
  | [], _, _ => rfl
  | q :: st, ss, x => by
    show ((comeTo st ss.tail x).set _ _).length = _
    rw [List.length_set, come_len]
theorem get_set {l : List Int} {p j : Nat} {v : Int} (hp : p < l.length) : (l.set p v).getD j 0 = if j = p then v else l.getD j 0 := by
  rw [List.getD_eq_getElem?_getD, List.getElem?_set]
  by_cases c : p = j
  · rw [if_pos c, if_pos hp, if_pos c.symm]
    rfl
  · rw [if_neg c, if_neg (fun z => c z.symm), List.getD_eq_getElem?_getD]
/-- the sum with one number put in -/
theorem dot_set : ∀ {h y : List Int} {p : Nat} {v : Int}, h.length = y.length → p < y.length → dotI h (y.set p v) = dotI h y + pz p h * (v - pz p y)
  | a :: h, b :: y, 0, v, e, _ => by
    rw [List.set_cons_zero, dotI_cons, dotI_cons]
    show a * v + _ = a * b + _ + a * (v - b)
    grind
  | a :: h, b :: y, p + 1, v, e, hp => by
    have e' : h.length = y.length := by simpa using e
    rw [List.set_cons_succ, dotI_cons, dotI_cons, dot_set e' (by simpa using hp)]
    show a * b + (dotI h y + h.getD p 0 * (v - y.getD p 0)) = a * b + dotI h y + h.getD p 0 * (v - y.getD p 0)
    omega
  | [], [], _, _, _, hp => by simp at hp
  | [], _ :: _, _, _, e, _ => by simp at e
  | _ :: _, [], _, _, e, _ => by simp at e
/-- what stands at another place than where a stair begins stays -/
theorem come_keep : ∀ {st : List (Nat × List Int)} {ss x : List Int} {j : Nat}, (∀ q ∈ st, q.1 < x.length) → (∀ q ∈ st, q.1 ≠ j) → (comeTo st ss x).getD j 0 = x.getD j 0
  | [], _, _, _, _, _ => rfl
  | q :: st, ss, x, j, hl, h => by
    show ((comeTo st ss.tail x).set _ _).getD j 0 = _
    rw [get_set (by rw [come_len]; exact hl q List.mem_cons_self), if_neg (fun z => h q List.mem_cons_self z.symm)]
    exact come_keep (fun x hx => hl x (List.mem_cons_of_mem _ hx)) fun x hx => h x (List.mem_cons_of_mem _ hx)
theorem dvd_at {d : Int} {x : List Int} (h : ∀ n ∈ x, d ∣ n) (j : Nat) : d ∣ x.getD j 0 := by
  rw [List.getD_eq_getElem?_getD]
  cases e : x[j]? with
  | none => exact Int.dvd_zero d
  | some n => exact h n (List.mem_of_getElem? e)
theorem dvd_dot {d : Int} : ∀ {h x : List Int}, (∀ n ∈ x, d ∣ n) → d ∣ dotI h x
  | [], _, _ => by rw [dotI_nil]; exact Int.dvd_zero d
  | _ :: _, [], _ => by rw [dotI_nil2]; exact Int.dvd_zero d
  | a :: h, b :: x, hx => by
    rw [dotI_cons]
    exact Int.dvd_add (Int.dvd_mul_of_dvd_right (hx b List.mem_cons_self)) (dvd_dot fun n hn => hx n (List.mem_cons_of_mem _ hn))
theorem absI_dvd {a b : Int} (h : absI a ∣ b) : a ∣ b := by
  rcases absI_eq a with ⟨e, _⟩ | ⟨e, _⟩
  · rw [← e]; exact h
  · rw [e] at h
    exact Int.neg_dvd.mp h
theorem fdiv_exact {a b : Int} (h : b ∣ a) : b * a.fdiv b = a := by
  rw [Int.fdiv_eq_ediv_of_dvd h]
  exact Int.mul_ediv_cancel' h
/-- all divisions go: the row comes to the sums -/
theorem come_ok {n : Nat} : ∀ {st : List (Nat × List Int)} {ss x : List Int} {d : Int}, Ech n st → ss.length = st.length → x.length = n → (∀ q ∈ st, x.getD q.1 0 = 0) → (∀ s ∈ ss, whole st * d ∣ s) → (∀ s ∈ x, whole st * d ∣ s) →
    (∀ s ∈ comeTo st ss x, d ∣ s) ∧ ∀ (i : Nat) (q : Nat × List Int) (s : Int), st[i]? = some q → ss[i]? = some s → dotI q.2 (comeTo st ss x) = s
  | [], ss, x, d, _, _, _, _, _, hx => ⟨fun s hs => by
      have := hx s hs
      have e : whole [] * d = d := by show 1 * d = d; omega
      rw [e] at this
      exact this, fun i q s h _ => by simp at h⟩
  | q :: st, [], x, d, _, hl, _, _, _, _ => by simp at hl
  | q :: st, s0 :: ss, x, d, h, hl, hx, h0, hs, hxd => by
    obtain ⟨k1, k2, k3, k4⟩ := h.ok q List.mem_cons_self
    have ew : whole (q :: st) * d = whole st * (absI (pz q.1 q.2) * d) := by rw [whole_cons]; grind
    rw [ew] at hs hxd
    obtain ⟨i1, i2⟩ := come_ok (st := st) (ss := ss) (x := x) (d := absI (pz q.1 q.2) * d) h.tail (by simpa using hl) hx (fun q' hq => h0 q' (List.mem_cons_of_mem _ hq)) (fun s m => hs s (List.mem_cons_of_mem _ m)) hxd
    have np : ∀ q' ∈ st, q.1 < q'.1 := fun q' hq => (List.pairwise_cons.mp h.rise).1 q' hq
    have hpl : ∀ q' ∈ st, q'.1 < x.length := fun q' hq => by rw [hx]; exact (h.tail.ok q' hq).1
    have yp : (comeTo st ss x).getD q.1 0 = 0 := by
      rw [come_keep hpl fun q' hq => by have := np q' hq; omega]
      exact h0 q List.mem_cons_self
    have hyl : (comeTo st ss x).length = n := by rw [come_len, hx]
    have hd : absI (pz q.1 q.2) * d ∣ s0 - dotI q.2 (comeTo st ss x) := Int.dvd_sub (Int.dvd_trans (Int.dvd_mul_left _ _) (hs s0 List.mem_cons_self)) (dvd_dot i1)
    have hd2 : pz q.1 q.2 ∣ s0 - dotI q.2 (comeTo st ss x) := absI_dvd (Int.dvd_trans (Int.dvd_mul_right _ _) hd)
    have ex := fdiv_exact hd2
    have edef : comeTo (q :: st) (s0 :: ss) x = (comeTo st ss x).set q.1 ((s0 - dotI q.2 (comeTo st ss x)).fdiv (pz q.1 q.2)) := rfl
    rw [edef]
    generalize (s0 - dotI q.2 (comeTo st ss x)).fdiv (pz q.1 q.2) = v at ex
    refine ⟨fun s m => ?_, fun i q' s h1 h2 => ?_⟩
    · rcases List.mem_or_eq_of_mem_set m with z | z
      · exact Int.dvd_trans (Int.dvd_mul_left _ _) (i1 s z)
      · rw [z]
        rw [← ex] at hd
        have hd' : absI (pz q.1 q.2) * d ∣ absI (pz q.1 q.2) * v := by
          rcases absI_eq (pz q.1 q.2) with ⟨e, _⟩ | ⟨e, _⟩
          · rw [e] at hd ⊢; exact hd
          · rw [e] at hd ⊢
            rw [Int.neg_mul (pz q.1 q.2) v]
            exact Int.dvd_neg.mpr hd
        have hne : absI (pz q.1 q.2) ≠ 0 := by
          rcases absI_eq (pz q.1 q.2) with ⟨e, _⟩ | ⟨e, _⟩ <;> omega
        exact Int.dvd_of_mul_dvd_mul_left hne hd'
    · match i, h1, h2 with
      | 0, h1, h2 =>
        cases Option.some.inj h1
        cases Option.some.inj h2
        rw [dot_set (by rw [k2, hyl]) (by rw [hyl]; exact k1)]
        show _ + pz q.1 q.2 * (v - (comeTo st ss x).getD q.1 0) = _
        rw [yp, Int.sub_zero, ex]
        omega
      | i + 1, h1, h2 =>
        have h1' : st[i]? = some q' := by simpa using h1
        have h2' : ss[i]? = some s := by simpa using h2
        have m := List.mem_of_getElem? h1'
        obtain ⟨l1, l2, l3, l4⟩ := h.tail.ok q' m
        rw [dot_set (by rw [l2, hyl]) (by rw [hyl]; exact k1), l4 q.1 (np q' m), i2 i q' s h1' h2']
        omega
/-- nothing beyond k, where nothing was begun there and the sums of the stairs beyond are noughts -/
theorem come_zero {n k : Nat} : ∀ {st : List (Nat × List Int)} {ss x : List Int}, Ech n st → ss.length = st.length → x.length = n → (∀ j, k < j → x.getD j 0 = 0) → (∀ (i : Nat) (q : Nat × List Int) (s : Int), st[i]? = some q → ss[i]? = some s → k < q.1 → s = 0) → ∀ j, k < j → (comeTo st ss x).getD j 0 = 0
  | [], _, _, _, _, _, hx, _, j, hj => hx j hj
  | q :: st, [], _, _, hl, _, _, _, _, _ => by simp at hl
  | q :: st, s0 :: ss, x, h, hl, hx, h0, hs, j, hj => by
    have ih := come_zero (k := k) (st := st) (ss := ss) (x := x) h.tail (by simpa using hl) hx h0 (fun i q' s h1 h2 => hs (i + 1) q' s (by simpa using h1) (by simpa using h2))
    obtain ⟨k1, k2, k3, k4⟩ := h.ok q List.mem_cons_self
    have hyl : (comeTo st ss x).length = n := by rw [come_len, hx]
    show ((comeTo st ss x).set q.1 ((s0 - dotI q.2 (comeTo st ss x)).fdiv (pz q.1 q.2))).getD j 0 = 0
    rw [get_set (by rw [hyl]; exact k1)]
    by_cases c : j = q.1
    · rw [if_pos c]
      have e0 : s0 = 0 := hs 0 q s0 rfl rfl (by omega)
      have ed : dotI q.2 (comeTo st ss x) = 0 := by
        have : ∀ (h y : List Int), (∀ i, pz i h = 0 ∨ y.getD i 0 = 0) → dotI h y = 0 := by
          intro h
          induction h with
          | nil => intro y _; exact dotI_nil
          | cons a h ih =>
            intro y hy
            cases y with
            | nil => exact dotI_nil2
            | cons b y =>
              rw [dotI_cons, ih y fun i => hy (i + 1)]
              rcases hy 0 with z | z
              · have z : a = 0 := z
                rw [z]; omega
              · have z : b = 0 := z
                rw [z]; omega
        refine this _ _ fun i => ?_
        by_cases ci : i < q.1
        · exact .inl (k4 i ci)
        · exact .inr (ih i (by omega))
      rw [e0, ed]
      show (0 : Int).fdiv _ = 0
      exact Int.zero_fdiv _
    · rw [if_neg c]
      exact ih j hj
end HL

namespace HL
/-! ### papers -/
theorem dot_meet : ∀ {v x : List Int} {j : Nat}, v.length = x.length → (∀ i, i < j → v.getD i 0 = 0) → (∀ i, j < i → x.getD i 0 = 0) → dotI v x = v.getD j 0 * x.getD j 0
  | [], [], j, _, _, _ => by rw [dotI_nil]; simp
  | a :: v, b :: x, 0, e, h1, h2 => by
    have e' : v.length = x.length := by simpa using e
    have : dotI v x = 0 := by
      have : ∀ (v x : List Int), (∀ i, x.getD i 0 = 0) → dotI v x = 0 := by
        intro v
        induction v with
        | nil => intro x _; exact dotI_nil
        | cons a v ih =>
          intro x hx
          cases x with
          | nil => exact dotI_nil2
          | cons b x =>
            have z : b = 0 := hx 0
            rw [dotI_cons, ih x fun i => hx (i + 1), z]
            omega
      exact this v x fun i => h2 (i + 1) (by omega)
    rw [dotI_cons, this]
    show a * b + 0 = a * b
    omega
  | a :: v, b :: x, j + 1, e, h1, h2 => by
    have e' : v.length = x.length := by simpa using e
    have z : a = 0 := h1 0 (by omega)
    rw [dotI_cons, dot_meet (j := j) e' (fun i hi => h1 (i + 1) (by omega)) (fun i hi => h2 (i + 1) (by omega)), z]
    show 0 * b + v.getD j 0 * x.getD j 0 = v.getD j 0 * x.getD j 0
    omega
  | [], _ :: _, _, e, _, _ => by simp at e
  | _ :: _, [], _, e, _, _ => by simp at e
theorem all_zero : ∀ {v : List Int}, (∀ i, v.getD i 0 = 0) → v = List.replicate v.length 0
  | [], _ => rfl
  | a :: v, h => by
    have z : a = 0 := h 0
    have := all_zero (v := v) fun i => h (i + 1)
    rw [List.length_cons, List.replicate_succ, ← this, z]
/-- what a part's row is -/
structure PartRow (n : Nat) (st : List (Nat × List Int)) (i : Nat) (q : Nat × List Int) (x : List Int) : Prop where
  len : x.length = n
  dot : ∀ (t : Nat) (q' : Nat × List Int), st[t]? = some q' → dotI q'.2 x = if t = i then whole st else 0
  far : ∀ j, q.1 < j → x.getD j 0 = 0
/-- what a row beside is -/
structure BesideRow (n : Nat) (st : List (Nat × List Int)) (g : Nat) (y : List Int) : Prop where
  len : y.length = n
  dot : ∀ q ∈ st, dotI q.2 y = 0
  at_ : y.getD g 0 = whole st
  far : ∀ j, g < j → y.getD j 0 = 0
theorem lat_all {n : Nat} {st : List (Nat × List Int)} (h : Ech n st) (xs ys : Nat → List Int) (hx : ∀ i q, st[i]? = some q → PartRow n st i q (xs i)) (hy : ∀ g, g < n → (∀ q ∈ st, q.1 ≠ g) → BesideRow n st g (ys g)) :
    ∀ (m j : Nat) (v : List Int), n - j = m → v.length = n → (∀ i, i < j → v.getD i 0 = 0) → (∀ i q, st[i]? = some q → whole st ∣ dotI v (xs i)) → (∀ g, g < n → (∀ q ∈ st, q.1 ≠ g) → dotI v (ys g) = 0) → Lat n (st.map (·.2)) v
  | 0, j, v, e, hl, hz, _, _ => by
    have : v = List.replicate n 0 := by
      have := all_zero (v := v) fun i => by
        by_cases c : i < j
        · exact hz i c
        · rw [List.getD_eq_getElem?_getD, List.getElem?_eq_none (by omega)]
          rfl
      rw [hl] at this
      exact this
    rw [this]
    exact .nil
  | m + 1, j, v, e, hl, hz, h1, h2 => by
    have hjn : j < n := by omega
    have hw := whole_pos h
    by_cases c : ∃ (i : Nat) (q : Nat × List Int), st[i]? = some q ∧ q.1 = j
    · obtain ⟨i, q, hq, rfl⟩ := c
      obtain ⟨k1, k2, k3, k4⟩ := h.ok q (List.mem_of_getElem? hq)
      obtain ⟨p1, p2, p3⟩ := hx i q hq
      have d1 := dot_meet (v := v) (x := xs i) (j := q.1) (by rw [hl, p1]) hz p3
      have d2 := dot_meet (v := q.2) (x := xs i) (j := q.1) (by rw [k2, p1]) k4 p3
      have d3 := p2 i q hq
      rw [if_pos rfl] at d3
      have hd := h1 i q hq
      have ew : whole st = pz q.1 q.2 * (xs i).getD q.1 0 := d3.symm.trans d2
      have hxn : (xs i).getD q.1 0 ≠ 0 := fun z => by
        rw [z, Int.mul_zero] at ew
        omega
      have hdv : pz q.1 q.2 ∣ v.getD q.1 0 := by
        rw [d1, ew] at hd
        exact Int.dvd_of_mul_dvd_mul_right hxn hd
      obtain ⟨k, hk⟩ := hdv
      have lq : v.length = q.2.length := by rw [hl, k2]
      have mq : q.2 ∈ st.map (·.2) := List.mem_map.mpr ⟨q, List.mem_of_getElem? hq, rfl⟩
      have ih := lat_all h xs ys hx hy m (q.1 + 1) (subR v q.2 k) (by omega) (by rw [subR_len lq, hl]) (fun i' hi' => ?_) (fun t q' ht => ?_) (fun g hg hn => ?_)
      · have e2 : subR (subR v q.2 k) q.2 (-k) = v := by rw [subR_add, Int.add_right_neg, subR_zero lq]
        rw [← e2]
        exact .more _ ih mq
      · rw [subR_get lq]
        by_cases ci : i' = q.1
        · rw [ci, hk]
          show pz q.1 q.2 * k - k * pz q.1 q.2 = 0
          rw [Int.mul_comm]
          omega
        · have h3 := hz i' (by omega)
          have h4 := k4 i' (by omega)
          have h4 : q.2.getD i' 0 = 0 := h4
          rw [h3, h4]
          omega
      · rw [dot_sub lq]
        refine Int.dvd_sub (h1 t q' ht) (Int.dvd_mul_of_dvd_right ?_)
        rw [(hx t q' ht).dot i q hq]
        split
        · exact Int.dvd_refl _
        · exact Int.dvd_zero _
      · rw [dot_sub lq, h2 g hg hn, (hy g hg hn).dot q (List.mem_of_getElem? hq)]
        omega
    · have hn : ∀ q ∈ st, q.1 ≠ j := fun q hq z => by
        obtain ⟨i, hi⟩ := List.mem_iff_getElem?.mp hq
        exact c ⟨i, q, hi, z⟩
      obtain ⟨p1, p2, p3, p4⟩ := hy j hjn hn
      have d1 := dot_meet (v := v) (x := ys j) (j := j) (by rw [hl, p1]) hz p4
      have d2 := h2 j hjn hn
      rw [d1, p3] at d2
      have vj : v.getD j 0 = 0 := by
        rcases Int.mul_eq_zero.mp d2 with z | z
        · exact z
        · omega
      refine lat_all h xs ys hx hy m (j + 1) v (by omega) hl (fun i hi => ?_) h1 h2
      by_cases ci : i = j
      · rw [ci]; exact vj
      · exact hz i (by omega)
theorem lat_bill {n : Nat} {st : List (Nat × List Int)} {b : List Int} (h : Ech n st) (hb : b.length = n) (xs ys : Nat → List Int) (hx : ∀ i q, st[i]? = some q → PartRow n st i q (xs i)) (hy : ∀ g, g < n → (∀ q ∈ st, q.1 ≠ g) → BesideRow n st g (ys g))
    (h1 : ∀ i q, st[i]? = some q → whole st ∣ dotI b (xs i)) (h2 : ∀ g, g < n → (∀ q ∈ st, q.1 ≠ g) → dotI b (ys g) = 0) : Lat n (st.map (·.2)) b :=
  lat_all h xs ys hx hy n 0 b (by omega) hb (fun i hi => by omega) h1 h2
theorem part_ok {n i : Nat} {st : List (Nat × List Int)} {q : Nat × List Int} {ss x : List Int} (h : Ech n st) (hq : st[i]? = some q) (hl : ss.length = st.length) (hs : ∀ (t : Nat) (s : Int), ss[t]? = some s → s = if t = i then whole st else 0) (hx : x = List.replicate n 0) : PartRow n st i q (comeTo st ss x) := by
  have hxl : x.length = n := by rw [hx, List.length_replicate]
  have hx0 : ∀ j, x.getD j 0 = 0 := fun j => by
    rw [hx, List.getD_eq_getElem?_getD, List.getElem?_replicate]
    split <;> rfl
  have ok := come_ok (d := 1) h hl hxl (fun q' _ => hx0 _) (fun s m => by
    obtain ⟨t, ht⟩ := List.mem_iff_getElem?.mp m
    rw [hs t s ht, Int.mul_one]
    split
    · exact Int.dvd_refl _
    · exact Int.dvd_zero _) (fun s m => by
    rw [hx] at m
    rw [List.eq_of_mem_replicate m]
    exact Int.dvd_zero _)
  refine ⟨by rw [come_len, hxl], fun t q' ht => ?_, come_zero h hl hxl (fun j _ => hx0 j) fun t q' s h1 h2 h3 => ?_⟩
  · have hlt : t < ss.length := by
      rw [hl]
      exact (List.getElem?_eq_some_iff.mp ht).1
    have e := List.getElem?_eq_getElem hlt
    rw [ok.2 t q' _ ht e]
    exact hs t _ e
  · rw [hs t s h2, if_neg]
    intro z
    rw [z, hq] at h1
    cases h1
    omega
theorem beside_ok {n g : Nat} {st : List (Nat × List Int)} {ss x : List Int} (h : Ech n st) (hg : g < n) (hn : ∀ q ∈ st, q.1 ≠ g) (hl : ss.length = st.length) (hs : ∀ s ∈ ss, s = 0) (hx : x.length = n) (hx1 : ∀ (j : Nat) (s : Int), x[j]? = some s → s = if j = g then whole st else 0) : BesideRow n st g (comeTo st ss x) := by
  have hx0 : ∀ j, j ≠ g → x.getD j 0 = 0 := fun j hj => by
    rw [List.getD_eq_getElem?_getD]
    cases e : x[j]? with
    | none => rfl
    | some s =>
      have := hx1 j s e
      rw [if_neg hj] at this
      rw [this]
      rfl
  have ok := come_ok (d := 1) h hl hx (fun q' hq => hx0 _ (hn q' hq)) (fun s m => by rw [hs s m]; exact Int.dvd_zero _) (fun s m => by
    obtain ⟨j, hj⟩ := List.mem_iff_getElem?.mp m
    rw [hx1 j s hj, Int.mul_one]
    split
    · exact Int.dvd_refl _
    · exact Int.dvd_zero _)
  refine ⟨by rw [come_len, hx], fun q hq => ?_, ?_, come_zero h hl hx (fun j hj => hx0 j (by omega)) fun t q' s _ h2 _ => hs s (List.mem_of_getElem? h2)⟩
  · obtain ⟨t, ht⟩ := List.mem_iff_getElem?.mp hq
    have hlt : t < ss.length := by
      rw [hl]
      exact (List.getElem?_eq_some_iff.mp ht).1
    have e := List.getElem?_eq_getElem hlt
    rw [ok.2 t q _ ht e]
    exact hs _ (List.mem_of_getElem? e)
  · rw [come_keep (fun q hq => by rw [hx]; exact (h.ok q hq).1) hn, List.getD_eq_getElem?_getD, List.getElem?_eq_getElem (by omega)]
    exact (hx1 g _ (List.getElem?_eq_getElem (by omega))).trans (if_pos rfl)
/-! ### how great the rows are -/
theorem fdiv_le {a b : Int} {S : Int} (hb : b ≠ 0) (h1 : -S ≤ a) (h2 : a ≤ S) : -(S + 1) ≤ a.fdiv b ∧ a.fdiv b ≤ S + 1 := quot_any hb h1 h2
theorem dot_ent {M Y : Int} (m0 : 0 ≤ M) (y0 : 0 ≤ Y) : ∀ {h y : List Int}, Ent M h → Ent Y y → -((h.length : Nat) * (M * Y)) ≤ dotI h y ∧ dotI h y ≤ (h.length : Nat) * (M * Y)
  | [], y, _, _ => by rw [dotI_nil]; simp
  | a :: h, [], _, _ => by
    rw [dotI_nil2]
    have := Int.mul_nonneg (show (0 : Int) ≤ ((a :: h).length : Nat) by omega) (Int.mul_nonneg m0 y0)
    omega
  | a :: h, b :: y, h1, h2 => by
    have ih := dot_ent m0 y0 (h := h) (y := y) (fun x hx => h1 x (List.mem_cons_of_mem _ hx)) (fun x hx => h2 x (List.mem_cons_of_mem _ hx))
    have ha := h1 a List.mem_cons_self
    have hb := h2 b List.mem_cons_self
    have e : ((a :: h).length : Int) * (M * Y) = (h.length : Nat) * (M * Y) + M * Y := by
      rw [List.length_cons, Int.natCast_add, Int.add_mul]
      omega
    have k := sub_ent (r := [0]) (l := [b]) (q := a) (M := 0) (B := Y) (t := M) m0 ha.1 ha.2 y0 (fun x hx => by rw [List.mem_singleton.mp hx]; decide) (fun x hx => by rw [List.mem_singleton.mp hx]; exact hb) (0 - a * b) (by show _ ∈ [(0 : Int) - a * b]; exact List.mem_cons_self)
    rw [dotI_cons]
    generalize ((a :: h).length : Int) * (M * Y) = z at *
    omega
theorem come_ent {n : Nat} {M W : Int} (m0 : 0 ≤ M) (w1 : 1 ≤ W) : ∀ {st : List (Nat × List Int)} {ss x : List Int}, Ech n st → (∀ q ∈ st, Ent M q.2) → ss.length = st.length → Ent W ss → Ent W x → Ent (W * (3 + (n : Nat) * M) ^ st.length) (comeTo st ss x)
  | [], ss, x, _, _, _, _, hx => fun y hy => by
    have := hx y hy
    show -(W * (3 + (n : Nat) * M) ^ 0) ≤ y ∧ y ≤ W * (3 + (n : Nat) * M) ^ 0
    rw [Int.pow_zero, Int.mul_one]
    exact this
  | q :: st, [], x, _, _, hl, _, _ => by simp at hl
  | q :: st, s0 :: ss, x, h, hM, hl, hs, hx => by
    have ih := come_ent m0 w1 (st := st) (ss := ss) (x := x) h.tail (fun q' hq => hM q' (List.mem_cons_of_mem _ hq)) (by simpa using hl) (fun y hy => hs y (List.mem_cons_of_mem _ hy)) hx
    obtain ⟨k1, k2, k3, k4⟩ := h.ok q List.mem_cons_self
    have nm : 0 ≤ (n : Int) * M := Int.mul_nonneg (by omega) m0
    have tp : ∀ k : Nat, 1 ≤ (3 + (n : Int) * M) ^ k := fun k => by
      induction k with
      | zero => rw [Int.pow_zero]; decide
      | succ k ih => rw [Int.pow_succ]; exact pos_mul ih (by omega)
    have t1 := tp st.length
    have e : W * (3 + (n : Int) * M) ^ (q :: st).length = W * (3 + (n : Int) * M) ^ st.length * 3 + (n : Nat) * (M * (W * (3 + (n : Int) * M) ^ st.length)) := by
      rw [List.length_cons, Int.pow_succ]
      grind
    rw [e]
    generalize (3 + (n : Int) * M) ^ st.length = T at *
    have wt : W ≤ W * T := le_mul_r (by omega) t1
    have y0 : 0 ≤ W * T := by omega
    have hd := dot_ent m0 y0 (hM q List.mem_cons_self) ih
    rw [k2] at hd
    have hs0 := hs s0 List.mem_cons_self
    have hf := fdiv_le (a := s0 - dotI q.2 (comeTo st ss x)) (b := pz q.1 q.2) (S := W + (n : Nat) * (M * (W * T))) k3 (by omega) (by omega)
    have z0 : 0 ≤ (n : Int) * (M * (W * T)) := Int.mul_nonneg (by omega) (Int.mul_nonneg m0 y0)
    intro y hy
    rcases List.mem_or_eq_of_mem_set (show y ∈ (comeTo st ss x).set q.1 ((s0 - dotI q.2 (comeTo st ss x)).fdiv (pz q.1 q.2)) from hy) with z | z
    · have := ih y z
      omega
    · rw [z]
      omega
theorem whole_ent {M : Int} (m1 : 1 ≤ M) : ∀ {st : List (Nat × List Int)}, (∀ q ∈ st, Ent M q.2) → 0 ≤ whole st ∧ whole st ≤ M ^ st.length
  | [], _ => ⟨by decide, by show whole [] ≤ M ^ 0; rw [Int.pow_zero]; decide⟩
  | q :: st, h => by
    obtain ⟨i1, i2⟩ := whole_ent m1 (st := st) fun q' hq => h q' (List.mem_cons_of_mem _ hq)
    have hq := (h q List.mem_cons_self).at (by omega) q.1
    have a0 : 0 ≤ absI (pz q.1 q.2) ∧ absI (pz q.1 q.2) ≤ M := by
      rcases absI_eq (pz q.1 q.2) with ⟨a, b⟩ | ⟨a, b⟩ <;> omega
    rw [whole_cons, List.length_cons, Int.pow_succ, Int.mul_comm (M ^ _)]
    exact ⟨Int.mul_nonneg a0.1 i1, Int.mul_le_mul a0.2 i2 i1 (by omega)⟩
/-! ### stairs of a lot -/
def bnd : Nat → Int
  | 0 => 8
  | c + 1 => big (bnd c)
theorem bnd_pos : ∀ c, 1 ≤ bnd c
  | 0 => by decide
  | c + 1 => Int.le_trans (bnd_pos c) (first_big (bnd_pos c)).2.2
theorem bnd_mono : ∀ {c d : Nat}, c ≤ d → bnd c ≤ bnd d
  | c, 0, h => by
    have : c = 0 := by omega
    rw [this]
    exact Int.le_refl _
  | c, d + 1, h => by
    by_cases e : c = d + 1
    · rw [e]
      exact Int.le_refl _
    · exact Int.le_trans (bnd_mono (show c ≤ d by omega)) (first_big (bnd_pos d)).2.2
structure SInv (n g : Nat) (lot : List (List Int)) (st : List (Nat × List Int)) (rows : List (List Int)) : Prop where
  ech : Ech n st
  piv : ∀ q ∈ st, q.1 < g
  len : Len n rows
  zero : ∀ r ∈ rows, ∀ j, j < g → pz j r = 0
  same : SameLat n lot (st.map (·.2) ++ rows)
  few : st.length + rows.length = lot.length
  ent : ∃ c, (c = 0 ∨ c + 1 ≤ lot.length) ∧ c + rows.length ≤ lot.length ∧ ∀ r ∈ st.map (·.2) ++ rows, Ent (bnd c) r
theorem lenS {n : Nat} {st : List (Nat × List Int)} (h : Ech n st) : Len n (st.map (·.2)) := fun r hr => by
  obtain ⟨q, hq, rfl⟩ := List.mem_map.mp hr
  exact (h.ok q hq).2.1
theorem SInv.start {n : Nat} {lot : List (List Int)} (hL : Len n lot) (hE : ∀ r ∈ lot, Ent 8 r) : SInv n 0 lot [] lot :=
  ⟨⟨.nil, fun q hq => by cases hq⟩, fun q hq => (by cases hq), hL, fun r _ j hj => (by omega), by simpa using SameLat.refl hL, by simp, 0, .inl rfl, by omega, fun r hr => hE r (by simpa using hr)⟩
theorem SInv.step {n g c : Nat} {lot rows at_ oth : List (List Int)} {st : List (Nat × List Int)} (hL : Len n lot) (hg : g < n) (h : SInv n g lot st rows) (hc0 : c = 0 ∨ c + 1 ≤ lot.length) (hc : c + rows.length ≤ lot.length) (hE : ∀ r ∈ st.map (·.2) ++ rows, Ent (bnd c) r) (O : OneAt n g (bnd c) rows at_ oth) : SInv n (g + 1) lot (st ++ at_.map fun r => (g, r)) oth := by
  have zA : ∀ r ∈ at_ ++ oth, ∀ j, j < g → pz j r = 0 := fun r hr j hj => (O.same.2 r hr).at0 h.len fun r' hr' => h.zero r' hr' j hj
  have ech : Ech n (st ++ at_.map fun r => (g, r)) := by
    refine ⟨?_, fun q hq => ?_⟩
    · refine List.pairwise_append.mpr ⟨h.ech.rise, ?_, fun a ha b hb => ?_⟩
      · have := O.one
        match at_, this with
        | [], _ => exact .nil
        | [x], _ => exact List.pairwise_singleton _ _
      · obtain ⟨r, _, rfl⟩ := List.mem_map.mp hb
        exact h.piv a ha
    · rcases List.mem_append.mp hq with z | z
      · exact h.ech.ok q z
      · obtain ⟨r, hr, rfl⟩ := List.mem_map.mp z
        exact ⟨hg, O.lenA r hr, O.nz r hr, fun j hj => zA r (List.mem_append_left _ hr) j hj⟩
  have em : (st ++ at_.map fun r => (g, r)).map (·.2) = st.map (·.2) ++ at_ := by
    rw [List.map_append, List.map_map]
    congr 1
    exact List.map_id'' (fun _ => rfl) _
  have hLS : Len n (st.map (·.2) ++ at_ ++ oth) := fun r hr => by
    rcases List.mem_append.mp hr with z | z
    · rcases List.mem_append.mp z with z | z
      · exact lenS h.ech r z
      · exact O.lenA r z
    · exact O.lenO r z
  have hLR : Len n (st.map (·.2) ++ rows) := fun r hr => (List.mem_append.mp hr).elim (lenS h.ech r) (h.len r)
  refine ⟨ech, fun q hq => ?_, O.lenO, fun r hr j hj => ?_, ?_, ?_, ?_⟩
  · rcases List.mem_append.mp hq with z | z
    · have := h.piv q z
      omega
    · obtain ⟨r, _, rfl⟩ := List.mem_map.mp z
      exact Nat.lt_succ_self g
  · by_cases e : j = g
    · rw [e]
      exact O.zero r hr
    · exact zA r (List.mem_append_right _ hr) j (by omega)
  · rw [em]
    refine h.same.trans hL hLS ⟨fun r hr => ?_, fun r hr => ?_⟩
    · rcases List.mem_append.mp hr with z | z
      · exact .one hLS (List.mem_append_left _ (List.mem_append_left _ z))
      · refine Lat.mono hLS (fun r' hr' => .one hLS ?_) (O.same.1 r z)
        rcases List.mem_append.mp hr' with z | z
        · exact List.mem_append_left _ (List.mem_append_right _ z)
        · exact List.mem_append_right _ z
    · have key : ∀ r ∈ at_ ++ oth, Lat n (st.map (·.2) ++ rows) r := fun r hr => Lat.mono hLR (fun r' hr' => .one hLR (List.mem_append_right _ hr')) (O.same.2 r hr)
      rcases List.mem_append.mp hr with z | z
      · rcases List.mem_append.mp z with z | z
        · exact .one hLR (List.mem_append_left _ z)
        · exact key r (List.mem_append_left _ z)
      · exact key r (List.mem_append_right _ z)
  · have := h.few
    have := O.count
    rw [List.length_append, List.length_map]
    omega
  · rw [em]
    rcases O.ent with z | ⟨z1, z2, z3⟩
    · refine ⟨c, hc0, by have := O.count; omega, fun r hr => ?_⟩
      rcases List.mem_append.mp hr with y | y
      · rcases List.mem_append.mp y with y | y
        · exact hE r (List.mem_append_left _ y)
        · exact z r (List.mem_append_left _ y)
      · exact z r (List.mem_append_right _ y)
    · refine ⟨c + 1, .inr (by omega), by have := O.count; omega, fun r hr => ?_⟩
      rcases List.mem_append.mp hr with y | y
      · rcases List.mem_append.mp y with y | y
        · exact (hE r (List.mem_append_left _ y)).mono (bnd_mono (Nat.le_succ c))
        · exact z3 r (List.mem_append_left _ y)
      · exact z3 r (List.mem_append_right _ y)
theorem bnd_bits : bnd 4 ≤ (2 : Int) ^ 4700 := by decide +kernel
theorem SInv.done {n : Nat} {lot rows : List (List Int)} {st : List (Nat × List Int)} (h : SInv n n lot st rows) (hL : Len n lot) (h5 : lot.length ≤ 5) : SameLat n lot (st.map (·.2)) ∧ (∀ q ∈ st, Ent (bnd 4) q.2) ∧ st.length ≤ 5 := by
  have z0 : ∀ r ∈ rows, r = List.replicate n 0 := fun r hr => by
    have := all_zero (v := r) fun i => by
      by_cases c : i < n
      · exact h.zero r hr i c
      · rw [List.getD_eq_getElem?_getD, List.getElem?_eq_none (by rw [h.len r hr]; omega)]
        rfl
    rw [h.len r hr] at this
    exact this
  refine ⟨h.same.trans hL (lenS h.ech) ⟨fun r hr => ?_, fun r hr => ?_⟩, fun q hq => ?_, by have := h.few; omega⟩
  · rcases List.mem_append.mp hr with z | z
    · exact .one (lenS h.ech) z
    · rw [z0 r z]
      exact .nil
  · exact .one (fun r hr => (List.mem_append.mp hr).elim (lenS h.ech r) (h.len r)) (List.mem_append_left _ hr)
  · obtain ⟨c, hc0, _, hE⟩ := h.ent
    exact (hE q.2 (List.mem_append_left _ (List.mem_map.mpr ⟨q, hq, rfl⟩))).mono (bnd_mono (by omega))
end HL

namespace HL
open PySem PySem.Spec PyProof.Rows L2
open C8 (pss_cut)
/-! ### the text -/
def topS (i : Nat) : Stmt := PySem.Challenge.pw_hamperlot_k19_whole_spanning_swaps.main.body.getD i (.Pass ⟨0, 0, 0, 0⟩)
abbrev sIsHold : Stmt := topS 7
abbrev sLook : Stmt := topS 8
abbrev sGoods : Stmt := topS 9
abbrev sUnit : Stmt := topS 11
abbrev sLess : Stmt := topS 12
abbrev sOneAt : Stmt := topS 14
abbrev sSpan : Stmt := topS 15
abbrev sFeed : Stmt := topS 17
abbrev sDraw : Stmt := topS 18
abbrev sHold : Stmt := topS 19
abbrev sLot : Stmt := topS 20
abbrev sSmall : Stmt := topS 21
abbrev sGood : Stmt := topS 22
abbrev sLGoods : Stmt := topS 23
abbrev sNoughts : Stmt := topS 24
abbrev sLIsSwap : Stmt := topS 25
abbrev sDet : Stmt := topS 26
abbrev sChosen : Stmt := topS 27
abbrev sMeas : Stmt := topS 28
abbrev sMinors : Stmt := topS 29
abbrev sLaw : Stmt := topS 30
/-! ### heaps -/
/-- all that stood but at f stands -/
def Kp (f : Addr) (H H' : Hp) : Prop := ∀ b o, b ≠ f → H b = some o → H' b = some o
theorem Kp.refl (f : Addr) (H : Hp) : Kp f H H := fun _ _ _ h => h
theorem Kp.trans {f : Addr} {H H1 H2 : Hp} (a : Kp f H H1) (b : Kp f H1 H2) : Kp f H H2 := fun c o n h => b c o n (a c o n h)
theorem Same.kp {f : Addr} {H H' : Hp} (a : Same H H') : Kp f H H' := fun b o _ h => a b o h
theorem Kp.put {f : Addr} {H : Hp} {o : HO} : Kp f H (upd H f o) := fun b _ n h => by
  rw [upd_ne n]
  exact h
theorem same_new {H : Hp} {p : Addr} {o : HO} (h : H p = none) : Same H (upd H p o) := fun b x e => by
  rw [upd_ne (ne_of_none e h)]
  exact e
theorem Kp.new {f : Addr} {H : Hp} {p : Addr} {o : HO} (h : H p = none) : Kp f H (upd H p o) := Same.kp (same_new h)
/-- the feed at f -/
def FeedAt (c : Addr) (H : Hp) (f : Addr) : Prop := ∃ (ns : List Int) (i b m n : Int),
  H f = some (.lst [.ref c, .int i, .int b, .int m, .int n]) ∧ H c = some (.lst (ns.map V.int)) ∧ 0 ≤ i ∧ 0 ≤ b ∧ 0 ≤ m ∧ m < 2147483647
theorem FeedAt.same {c : Addr} {H H' : Hp} {f : Addr} (F : FeedAt c H f) (s : Same H H') : FeedAt c H' f := by
  obtain ⟨ns, i, b, m, n, h1, h2, h3⟩ := F
  exact ⟨ns, i, b, m, n, s _ _ h1, s _ _ h2, h3⟩
theorem FeedAt.new {c : Addr} {H : Hp} {f p : Addr} {o : HO} (F : FeedAt c H f) (h : H p = none) : FeedAt c (upd H p o) f := F.same (same_new h)
theorem FeedAt.ne {c : Addr} {H : Hp} {f p : Addr} (F : FeedAt c H f) (h : H p = none) : p ≠ f := by
  obtain ⟨ns, i, b, m, n, h1, _⟩ := F
  exact fun e => by
    rw [e, h1] at h
    cases h
theorem FeedAt.neC {c : Addr} {H : Hp} {f p : Addr} (F : FeedAt c H f) (h : H p = none) : p ≠ c := by
  obtain ⟨ns, i, b, m, n, _, h1, _⟩ := F
  exact fun e => by
    rw [e, h1] at h
    cases h
theorem FeedAt.tup {c : Addr} {H : Hp} {f p : Addr} {xs : List V} (F : FeedAt c H f) (h : H p = some (.tup xs)) : p ≠ f := by
  obtain ⟨ns, i, b, m, n, h1, _⟩ := F
  exact ne_of h h1 (fun e => by cases e)
/-- another thing than the feed is written -/
theorem FeedAt.put {c : Addr} {H : Hp} {f D : Addr} {o : HO} (F : FeedAt c H f) (n1 : D ≠ f) (n2 : D ≠ c) : FeedAt c (upd H D o) f := by
  obtain ⟨ns, i, b, m, n, h1, h2, h3⟩ := F
  exact ⟨ns, i, b, m, n, by rw [upd_ne (Ne.symm n1)]; exact h1, by rw [upd_ne (Ne.symm n2)]; exact h2, h3⟩
/-- where nothing stood behind, nothing stood ahead -/
theorem Kp.free {f : Addr} {H H' : Hp} {p : Addr} (k : Kp f H H') (n : p ≠ f) (h : H' p = none) : H p = none := by
  cases e : H p with
  | none => rfl
  | some o =>
    rw [k _ _ n e] at h
    cases h
/-- what is new since H may be written -/
theorem Kp.late {f : Addr} {H H' : Hp} {D : Addr} {o : HO} (k : Kp f H H') (nD : H D = none) : Kp f H (upd H' D o) := fun b x n e => by
  rw [upd_ne (ne_of_none e nD)]
  exact k _ _ n e
theorem same_late {H H' : Hp} {D : Addr} {o : HO} (k : Same H H') (nD : H D = none) : Same H (upd H' D o) := fun b x e => by
  rw [upd_ne (ne_of_none e nD)]
  exact k _ _ e
theorem ref_ne {c : Addr} {ns : List Int} {r : List V} : (V.ref c :: r) ≠ ns.map V.int := by
  cases ns with
  | nil => exact fun e => by cases e
  | cons x xs => exact fun e => by simp at e
/-! ### the feed -/
theorem scFeed : FnScope ["_law_script"] ["_law_script"] (defScope sFeed) := ⟨rfl, rfl, rfl, by decide +kernel, rfl, by decide +kernel, by decide +kernel⟩
theorem scDraw : FnScope ["_law_feed_here", "_law_many", "_law_cell", "_law_digit", "_law_mix"] ["_law_feed_here", "_law_many"] (defScope sDraw) := ⟨rfl, rfl, rfl, by decide +kernel, rfl, by decide +kernel, by decide +kernel⟩
section
variable {P : Program} {w : World} {K : PySem.W.Frag} {mg : Str → Option Value} {base : Heap}
def spFeed (K : PySem.W.Frag) : Sp := fun vs H Q _ => ∃ (a : Addr) (ns : List Int), vs = [.ref a] ∧ SqL K H a (ns.map V.int) ∧ ns.length ≤ 63 ∧
  ∀ H' f c, Same H H' → H f = none → FeedAt c H' f → Q (.ref f) H'
theorem cut_ints (ns : List Int) (lo hi : Option Int) : ∃ ms : List Int, cutV (ns.map V.int) lo hi = ms.map V.int := by
  refine ⟨(ns.drop (HT.sIx ns.length 0 lo)).take (HT.sIx ns.length ns.length hi - HT.sIx ns.length 0 lo), ?_⟩
  unfold cutV
  rw [List.length_map, List.map_take, List.map_drop]
theorem ok_feed {f : Addr} {fd : FuncData} {k : Nat} (F : Fun K "_law_feed" "_law_feed" sFeed f fd) (ml : mg "list" = none) : FnOk P w K mg base CX0 (k + 1) f fd ["_law_script"] (spFeed K) := by
  refine F.ok scFeed (fun vs H Q E h => ?_) (fun cdv A outer s H vs Q E hr h => ?_)
  · obtain ⟨a, ns, rfl, _⟩ := h
    rfl
  · obtain ⟨a, ns, rfl, hS, hlen, q⟩ := h
    refine ⟨_, pss_one (ps_ret (pe_lst (pa_cons (pe_callTy call_list_of (by rfl) ml (by decide +kernel) (pa_cons (pe_slice sl_list (pv 0) po_none (po_some pe_int)) pa_nil)) (pa_cons pe_int (pa_cons pe_int (pa_cons pe_int (pa_cons pe_int pa_nil))))))), ?_⟩
    obtain ⟨ms, hms⟩ := cut_ints ns none (some 63)
    refine ⟨.ref a, rfl, 63, rfl, a, ns.map V.int, rfl, hS, fun c nc => ?_⟩
    rw [hms]
    refine ⟨c, ms.map V.int, rfl, .inl (SqL.of upd_same), fun l nl => ?_⟩
    refine ⟨(by show 5 ≤ sizeLine; decide), fun g ng => ?_⟩
    refine q _ g l ?_ ?_ ⟨ms, 0, 0, 9132, 0, upd_same, ?_, by decide, by decide, by decide, by decide⟩
    · exact (same_new nc).trans ((same_new nl).trans (same_new ng))
    · exact (same_new nc).free ((same_new nl).free ng)
    · rw [upd_ne (fun e => by rw [← e, upd_same] at ng; cases ng), upd_same]

theorem atI_int {ns : List Int} {i : Int} (h0 : 0 ≤ i) (h1 : i < (ns.length : Nat)) : ∃ z, atI (ns.map V.int) i = some (.int z) := by
  have hl : i.toNat < ns.length := by omega
  refine ⟨ns[i.toNat], ?_⟩
  have e : ((i.toNat : Nat) : Int) = i := by omega
  refine (congrArg (atI (ns.map V.int)) e.symm).trans (atI_nat (j := i.toNat) ?_)
  rw [List.getElem?_map, List.getElem?_eq_getElem hl]
  rfl
def spDraw : Sp := fun vs H Q _ => ∃ (f c : Addr) (n : Int), vs = [.ref f, .int n] ∧ 1 ≤ n ∧ n ≤ 1000000000000000000000000000000 ∧ FeedAt c H f ∧
  ∀ d H', 0 ≤ d → d < n → Kp f H H' → FeedAt c H' f → Q (.int d) H'
theorem ok_draw {f : Addr} {fd : FuncData} {k : Nat} (F : Fun K "_law_draw" "_law_draw" sDraw f fd) (ml : mg "len" = none) : FnOk P w K mg base CX0 (k + 1) f fd ["_law_feed_here", "_law_many"] spDraw := by
  refine F.ok scDraw (fun vs H Q E h => ?_) (fun cdv A outer s H vs Q E hr h => ?_)
  · obtain ⟨a, c, n, rfl, _⟩ := h
    rfl
  · obtain ⟨a, c, n, rfl, n1, n2, ⟨ns, i, b, m, t, h1, h2, i0, b0, m0, m1⟩, q⟩ := h
    refine ⟨_, pss_cut (ps_if (PW.pt (pw_and (pt_cmpR op_lt (pe_ix ix_list (pv 0) pe_int (fun _ _ => rfl)) (pv 1) (nomark _))
          (pw_and1 (pt_cmpR op_lt (pe_ix ix_list (pv 0) pe_int (fun _ _ => rfl)) (pe_callB call_len_seq (by rfl) ml PySem.boot_len (pa_cons (pe_ix ix_list (pv 0) pe_int (fun _ _ => rfl)) pa_nil)) (nomark _)))))
        (pss_cons (ps_set (i := 2) scDraw.nd rfl (.inl rfl) (pe_ix ix_list (pe_ix ix_list (pv 0) pe_int (fun _ _ => rfl)) (pe_ix ix_list (pv 0) pe_int (fun _ _ => rfl)) (fun _ _ => rfl)))
        (pss_cons (ps_asg (pe_op op_add (pe_ix ix_list (pv 0) pe_int (fun _ _ => rfl)) pe_int) (pg_sub (pv 0) pe_int set_list))
        (pss_cons (ps_asg pe_int (pg_sub (pv 0) pe_int set_list))
        (pss_one (ps_if (pt_cmpR op_ge (pv 2) (pe_op op_pow pe_int pe_int) (nomark _))
          (pss_one (ps_asg (pv 2) (pg_sub (pv 0) pe_int set_list)))
          (pss_one (ps_asg (pe_op op_mod (pe_op op_add (pe_op op_add (pe_op op_mul (pe_ix ix_list (pv 0) pe_int (fun _ _ => rfl)) pe_int) (pe_op op_mul (pe_op op_mod (pv 2) pe_int) pe_int)) pe_int) pe_int) (pg_sub (pv 0) pe_int set_list))))))))
        pss_nil)
      (pss_cons (ps_if (pt_cmpR op_ge (pe_ix ix_list (pv 0) pe_int (fun _ _ => rfl)) (pv 1) (nomark _))
        (pss_cons (ps_set (i := 3) scDraw.nd rfl (.inl rfl) (pe_op op_mod (pe_ix ix_list (pv 0) pe_int (fun _ _ => rfl)) (pv 1)))
        (pss_cons (ps_asg (pe_op op_fdivW (pe_ix ix_list (pv 0) pe_int (fun _ _ => rfl)) (pv 1)) (pg_sub (pv 0) pe_int set_list))
        (pss_one (ps_ret (pv 3))))) pss_nil)
      (pss_cons (ps_asg (pe_op op_add (pe_ix ix_list (pv 0) pe_int (fun _ _ => rfl)) pe_int) (pg_sub (pv 0) pe_int set_list))
      (pss_cons (ps_set (i := 4) scDraw.nd rfl (.inl rfl) (pe_ix ix_list (pv 0) pe_int (fun _ _ => rfl)))
      (pss_cons (ps_set (i := 4) scDraw.nd rfl (.inl rfl) (pe_op op_add (pe_op op_add (pe_op op_add (pe_op op_mul (pe_op op_mod (pe_op op_mul (pv 4) (pv 4)) pe_int) pe_int) (pe_op op_mul (pv 4) pe_int)) (pe_op op_mul pe_int (pe_ix ix_list (pv 0) pe_int (fun _ _ => rfl)))) pe_int))
      (pss_cons (ps_asg (pe_op op_mod (pv 4) pe_int) (pg_sub (pv 0) pe_int set_list))
      (pss_one (ps_ret (pe_op op_mod (pe_op op_add (pe_op op_fdiv (pe_ix ix_list (pv 0) pe_int (fun _ _ => rfl)) pe_int) (pe_op op_mul (pe_op op_mod (pe_ix ix_list (pv 0) pe_int (fun _ _ => rfl)) pe_int) pe_int)) (pv 1))))))))), ?_⟩
    have hca : c ≠ a := fun e => by
      rw [e, h1] at h2
      exact ref_ne (HO.lst.inj (Option.some.inj h2))
    refine ⟨fun σ' H' => ∃ (y2 : Option V) (i b m t : Int), σ' = [some (.ref a), some (.int n), y2, none, none] ∧ Kp a H H' ∧ H' a = some (.lst [.ref c, .int i, .int b, .int m, .int t]) ∧ 0 ≤ i ∧ 0 ≤ b ∧ 0 ≤ m ∧ m < 2147483647, ?_, ?_⟩
    · refine ⟨.ref a, rfl, a, _, 2, .int b, rfl, rfl, SqL.of h1, atI_nat (j := 2) rfl, .int n, rfl, b, n, rfl, rfl, _, rfl, ite2 (fun c1 => ?_) (fun c1 => ?_)⟩
      · refine ⟨.ref a, rfl, a, _, 1, .int i, rfl, rfl, SqL.of h1, atI_nat (j := 1) rfl, .ref a, rfl, a, _, 0, .ref c, rfl, rfl, SqL.of h1, atI_nat (j := 0) rfl, c, _, rfl, .inl (SqL.of h2), i, _, rfl, rfl, _, rfl, ite2 (fun c2 => ?_) (fun c2 => ?_)⟩
        · have hi : i < (ns.length : Nat) := by
            have := of_decide_eq_true c2
            rw [List.length_map] at this
            exact this
          obtain ⟨z, hz⟩ := atI_int i0 hi
          refine ⟨.ref a, rfl, a, _, 0, .ref c, rfl, rfl, SqL.of h1, atI_nat (j := 0) rfl, .ref a, rfl, a, _, 1, .int i, rfl, rfl, SqL.of h1, atI_nat (j := 1) rfl, c, _, i, .int z, rfl, rfl, SqL.of h2, hz, ?_⟩
          refine ⟨.ref a, rfl, a, _, 1, .int i, rfl, rfl, SqL.of h1, atI_nat (j := 1) rfl, i, 1, rfl, rfl, .ref a, rfl, a, _, 1, 1, rfl, rfl, h1, rfl, ?_⟩
          refine ⟨.ref a, rfl, a, _, 2, 2, rfl, rfl, upd_same, rfl, ?_⟩
          refine ⟨.int z, rfl, 10, 18, rfl, rfl, ⟨by decide, by decide, by decide⟩, z, _, rfl, rfl, _, rfl, ite2 (fun c3 => ?_) (fun c3 => ?_)⟩
          · have z0 : (10 : Int) ^ (18 : Int).toNat ≤ z := of_decide_eq_true c3
            have z1 : (0 : Int) ≤ z := Int.le_trans (by decide) z0
            refine ⟨.int z, rfl, .ref a, rfl, a, _, 2, 2, rfl, rfl, upd_same, rfl, ?_⟩
            exact ⟨_, i + 1, z, m, t, rfl, Kp.put.trans (Kp.put.trans Kp.put), upd_same, by omega, z1, m0, m1⟩
          · refine ⟨.ref a, rfl, a, _, 3, .int m, rfl, rfl, SqL.of upd_same, atI_nat (j := 3) rfl, m, 48271, rfl, rfl, .inr ⟨by decide, by decide⟩, .int z, rfl, z, 1000000007, rfl, rfl, (by show (0 : Int) < 1000000007; decide), _, 69621, rfl, rfl, .inr ⟨by decide, by decide⟩, _, _, rfl, rfl, _, 11, rfl, rfl, _, 2147483647, rfl, rfl, (by show (0 : Int) < 2147483647; decide), .ref a, rfl, a, _, 3, 3, rfl, rfl, upd_same, rfl, ?_⟩
            exact ⟨_, i + 1, 0, _, t, rfl, Kp.put.trans (Kp.put.trans Kp.put), upd_same, by omega, by decide, Int.emod_nonneg _ (by decide), Int.emod_lt_of_pos _ (by decide)⟩
        · exact ⟨none, i, b, m, t, rfl, Kp.refl _ _, h1, i0, b0, m0, m1⟩
      · exact ⟨none, i, b, m, t, rfl, Kp.refl _ _, h1, i0, b0, m0, m1⟩
    · rintro σ' H' ⟨y2, i, b, m, t, rfl, kp, g1, i0, b0, m0, m1⟩
      have g2 : H' c = some (.lst (ns.map V.int)) := kp _ _ hca h2
      refine ⟨.ref a, rfl, a, _, 2, .int b, rfl, rfl, SqL.of g1, atI_nat (j := 2) rfl, .int n, rfl, b, n, rfl, rfl, _, rfl, ite2 (fun c1 => ?_) (fun c1 => ?_)⟩
      · refine ⟨.ref a, rfl, a, _, 2, .int b, rfl, rfl, SqL.of g1, atI_nat (j := 2) rfl, .int n, rfl, b, n, rfl, rfl, (by show (0 : Int) < n; omega), ?_⟩
        refine ⟨.ref a, rfl, a, _, 2, .int b, rfl, rfl, SqL.of g1, atI_nat (j := 2) rfl, .int n, rfl, b, n, rfl, rfl, wide_div (b := 100) (by omega) (by omega) (by decide) (by decide), .ref a, rfl, a, _, 2, 2, rfl, rfl, g1, rfl, ?_⟩
        refine ⟨_, rfl, q _ _ (Int.emod_nonneg _ (by omega)) (Int.emod_lt_of_pos _ (by omega)) (kp.trans Kp.put) ⟨ns, i, _, m, t, upd_same, ?_, i0, Int.ediv_nonneg b0 (by omega), m0, m1⟩⟩
        rw [upd_ne hca]
        exact g2
      · refine ⟨.ref a, rfl, a, _, 4, .int t, rfl, rfl, SqL.of g1, atI_nat (j := 4) rfl, t, 1, rfl, rfl, .ref a, rfl, a, _, 4, 4, rfl, rfl, g1, rfl, ?_⟩
        refine ⟨.ref a, rfl, a, _, 3, .int m, rfl, rfl, SqL.of upd_same, atI_nat (j := 3) rfl, ?_⟩
        refine ⟨.int m, rfl, .int m, rfl, m, m, rfl, rfl, .inl ⟨by omega, by omega⟩, _, 2147483587, rfl, rfl, (by show (0 : Int) < 2147483587; decide), _, 16807, rfl, rfl, .inr ⟨by decide, by decide⟩, .int m, rfl, m, 48271, rfl, rfl, .inr ⟨by decide, by decide⟩, _, _, rfl, rfl, .ref a, rfl, a, _, 4, .int (t + 1), rfl, rfl, SqL.of upd_same, atI_nat (j := 4) rfl, 97, t + 1, rfl, rfl, .inl ⟨by decide, by decide⟩, _, _, rfl, rfl, _, 12345, rfl, rfl, ?_⟩
        refine ⟨_, rfl, _, 2147483647, rfl, rfl, (by show (0 : Int) < 2147483647; decide), .ref a, rfl, a, _, 3, 3, rfl, rfl, upd_same, rfl, ?_⟩
        refine ⟨.ref a, rfl, a, _, 3, _, rfl, rfl, SqL.of upd_same, atI_nat (j := 3) rfl, _, 64, rfl, rfl, ⟨by decide, by decide⟩, .ref a, rfl, a, _, 3, _, rfl, rfl, SqL.of upd_same, atI_nat (j := 3) rfl, _, 4093, rfl, rfl, (by show (0 : Int) < 4093; decide), _, 31, rfl, rfl, .inr ⟨by decide, by decide⟩, _, _, rfl, rfl, .int n, rfl, _, n, rfl, rfl, (by show (0 : Int) < n; omega), ?_⟩
        refine q _ _ (Int.emod_nonneg _ (by omega)) (Int.emod_lt_of_pos _ (by omega)) (kp.trans (Kp.put.trans Kp.put)) ⟨ns, i, b, _, t + 1, upd_same, ?_, i0, b0, Int.emod_nonneg _ (by decide), Int.emod_lt_of_pos _ (by decide)⟩
        rw [upd_ne hca, upd_ne hca]
        exact g2
end
end HL

namespace HL
open PySem PySem.Spec PyProof.Rows L2
open C8 (pss_cut)
/-- a def of the module as its callers take it -/
structure Cal (P : Program) (w : World) (K : PySem.W.Frag) (mg : Str → Option Value) (base : Heap) (CX : CXT) (j : Nat) (x : Str) (ps : List Str) (sp : Sp) : Prop where
  ex : ∃ f fd, FnOk P w K mg base CX j f fd ps sp ∧ mg x = some (.ref f) ∧ PySem.W.keepIn K (.ref f) = true ∧ Binds K fd ps []
section
variable {P : Program} {w : World} {K : PySem.W.Frag} {mg : Str → Option Value} {base : Heap}
/-! ### pick -/
theorem atI_mem {xs : List V} {i : Int} (h0 : 0 ≤ i) (h1 : i < (xs.length : Nat)) : ∃ z, atI xs i = some z ∧ z ∈ xs ∧ xs[i.toNat]? = some z := by
  have hl : i.toNat < xs.length := by omega
  have e : ((i.toNat : Nat) : Int) = i := by omega
  exact ⟨xs[i.toNat], (congrArg (atI xs) e.symm).trans (atI_nat (j := i.toNat) (List.getElem?_eq_getElem hl)), List.getElem_mem hl, List.getElem?_eq_getElem hl⟩
/-! ### same -/
def leafV : V → Bool
  | .non => true
  | .bl _ => true
  | .int _ => true
  | .str _ => true
  | _ => false
/-- alike at depth d: leaves, or lists or tuples of such -/
def Eqd (H : Hp) : Nat → V → V → Prop
  | 0, x, y => x = y ∧ leafV x = true
  | d + 1, x, y => (x = y ∧ leafV x = true) ∨ ∃ (a b : Addr) (xs ys : List V), x = .ref a ∧ y = .ref b ∧ ((H a = some (.lst xs) ∧ H b = some (.lst ys)) ∨ (H a = some (.tup xs) ∧ H b = some (.tup ys))) ∧
      xs.length = ys.length ∧ xs.length ≤ 1000 ∧ ∀ (i : Nat) (x y : V), xs[i]? = some x → ys[i]? = some y → Eqd H d x y
theorem Eqd.same {H H' : Hp} (s : Same H H') : ∀ {d : Nat} {x y : V}, Eqd H d x y → Eqd H' d x y
  | 0, _, _, h => h
  | d + 1, _, _, .inl h => .inl h
  | d + 1, _, _, .inr ⟨a, b, xs, ys, ex, ey, hs, hl, hz, ih⟩ => .inr ⟨a, b, xs, ys, ex, ey, hs.imp (fun q => ⟨s _ _ q.1, s _ _ q.2⟩) (fun q => ⟨s _ _ q.1, s _ _ q.2⟩), hl, hz, fun i x y h1 h2 => Eqd.same s (ih i x y h1 h2)⟩
structure Bl (mg : Str → Option Value) : Prop where
  len : mg "len" = none
  list : mg "list" = none
  tuple : mg "tuple" = none
  dict : mg "dict" = none
  str : mg "str" = none
  int : mg "int" = none
  bool : mg "bool" = none
  isinstance : mg "isinstance" = none
  all : mg "all" = none
  range : mg "range" = none
  sum : mg "sum" = none
  min : mg "min" = none
  max : mg "max" = none
  enumerate : mg "enumerate" = none
theorem leaf_or {H : Hp} {d : Nat} {x y : V} (h : Eqd H d x y) (hx : leafV x = true) : x = y := by
  cases d with
  | zero => exact h.1
  | succ d =>
    rcases h with h | ⟨a, b, xs, ys, rfl, _⟩
    · exact h.1
    · cases hx
/-- what isinstance tells of a list or tuple that is tracked -/
theorem seq_ty {K : PySem.W.Frag} {H : Hp} {a b : Addr} {xs ys : List V} (h : (H a = some (.lst xs) ∧ H b = some (.lst ys)) ∨ (H a = some (.tup xs) ∧ H b = some (.tup ys))) :
    ∃ (T : String) (bt bl : Bool), TyX K H (.ref a) (.type T) ∧ TyX K H (.ref b) (.type T) ∧ kitB T "bool" = some false ∧ kitB T "int" = some false ∧ kitB T "str" = some false ∧ kitB T "dict" = some false ∧ kitB T "tuple" = some bt ∧ kitB T "list" = some bl := by
  rcases h with ⟨h1, h2⟩ | ⟨h1, h2⟩
  · exact ⟨"list", false, true, .base (.lst h1), .base (.lst h2), by decide +kernel, by decide +kernel, by decide +kernel, by decide +kernel, by decide +kernel, by decide +kernel⟩
  · exact ⟨"tuple", true, false, .base (.tup h1), .base (.tup h2), by decide +kernel, by decide +kernel, by decide +kernel, by decide +kernel, by decide +kernel, by decide +kernel⟩
theorem fnEither {CX : CXT} {k : Nat} {f : Addr} {fd : FuncData} {ps : List Str} {sp sp1 sp2 : Sp} (F1 : FnOk P w K mg base CX k f fd ps sp1) (F2 : FnOk P w K mg base CX k f fd ps sp2) (h : ∀ vs H Q E, sp vs H Q E → sp1 vs H Q E ∨ sp2 vs H Q E) : FnOk P w K mg base CX k f fd ps sp where
  len := fun vs H Q E q => (h vs H Q E q).elim (F1.len vs H Q E) (F2.len vs H Q E)
  run := fun A outer s H args us vs Q E hr e0 hb r q => (h vs H Q E q).elim (F1.run A outer s H args us vs Q E hr e0 hb r) (F2.run A outer s H args us vs Q E hr e0 hb r)
theorem yes {σ : L2.St} {H : Hp} {Q : Bool → Hp → Prop} (h : Q true H) : tYes σ H Q := h
theorem bl_self (b : Bool) : (!decide (V.bl b = V.bl b)) = false := by rw [decide_eq_true rfl]; rfl
end
end HL

namespace HL
open PySem PySem.Spec PyProof.Rows L2
open C8 (pss_cut)
/-! ### rows and lots in the heap -/
def Rows (H : Hp) : List Addr → List (List Int) → Prop
  | [], [] => True
  | a :: as, r :: rs => H a = some (.tup (r.map V.int)) ∧ Rows H as rs
  | _, _ => False
theorem Rows.len {H : Hp} : ∀ {as : List Addr} {ll : List (List Int)}, Rows H as ll → as.length = ll.length
  | [], [], _ => rfl
  | a :: as, r :: rs, h => by rw [List.length_cons, List.length_cons, Rows.len h.2]
  | [], _ :: _, h => h.elim
  | _ :: _, [], h => h.elim
theorem Rows.mono {H H' : Hp} : ∀ {as : List Addr} {ll : List (List Int)}, Rows H as ll → (∀ a xs, H a = some (.tup xs) → H' a = some (.tup xs)) → Rows H' as ll
  | [], [], _, _ => True.intro
  | a :: as, r :: rs, h, k => ⟨k _ _ h.1, Rows.mono h.2 k⟩
  | [], _ :: _, h, _ => h.elim
  | _ :: _, [], h, _ => h.elim
theorem Rows.same {H H' : Hp} {as : List Addr} {ll : List (List Int)} (h : Rows H as ll) (s : Same H H') : Rows H' as ll := h.mono fun a xs e => s _ _ e
theorem Rows.kp {H H' : Hp} {f c : Addr} {as : List Addr} {ll : List (List Int)} (h : Rows H as ll) (F : FeedAt c H f) (k : Kp f H H') : Rows H' as ll := h.mono fun a xs e => k _ _ (F.tup e) e
theorem Rows.app {H : Hp} : ∀ {as bs : List Addr} {ll mm : List (List Int)}, Rows H as ll → Rows H bs mm → Rows H (as ++ bs) (ll ++ mm)
  | [], _, [], _, _, h => h
  | a :: as, bs, r :: rs, mm, h, k => ⟨h.1, Rows.app h.2 k⟩
  | [], _, _ :: _, _, h, _ => h.elim
  | _ :: _, _, [], _, h, _ => h.elim
theorem Rows.take {H : Hp} : ∀ {as : List Addr} {ll : List (List Int)} (n : Nat), Rows H as ll → Rows H (as.take n) (ll.take n)
  | [], [], n, _ => by rw [List.take_nil, List.take_nil]; exact True.intro
  | _ :: _, _ :: _, 0, _ => True.intro
  | a :: as, r :: rs, n + 1, h => ⟨h.1, Rows.take n h.2⟩
  | [], _ :: _, _, h => h.elim
  | _ :: _, [], _, h => h.elim
theorem Rows.drop {H : Hp} : ∀ {as : List Addr} {ll : List (List Int)} (n : Nat), Rows H as ll → Rows H (as.drop n) (ll.drop n)
  | [], [], n, _ => by rw [List.drop_nil, List.drop_nil]; exact True.intro
  | _ :: _, _ :: _, 0, h => h
  | a :: as, r :: rs, n + 1, h => Rows.drop n h.2
  | [], _ :: _, _, h => h.elim
  | _ :: _, [], _, h => h.elim
theorem Rows.at {H : Hp} : ∀ {as : List Addr} {ll : List (List Int)} {i : Nat} {a : Addr}, Rows H as ll → as[i]? = some a → ∃ r, ll[i]? = some r ∧ H a = some (.tup (r.map V.int))
  | [], [], _, _, _, e => by simp at e
  | b :: as, r :: rs, 0, a, h, e => by
    have e' : b = a := Option.some.inj e
    subst e'
    exact ⟨r, rfl, h.1⟩
  | b :: as, r :: rs, i + 1, a, h, e => Rows.at (i := i) h.2 e
  | [], _ :: _, _, _, h, _ => h.elim
  | _ :: _, [], _, _, h, _ => h.elim
/-- a lot in the heap -/
def LotAt (H : Hp) (p : Addr) (ll : List (List Int)) : Prop := ∃ as : List Addr, H p = some (.tup (as.map V.ref)) ∧ Rows H as ll
theorem LotAt.same {H H' : Hp} {p : Addr} {ll : List (List Int)} (h : LotAt H p ll) (s : Same H H') : LotAt H' p ll := by
  obtain ⟨as, h1, h2⟩ := h
  exact ⟨as, s _ _ h1, h2.same s⟩
theorem LotAt.kp {H H' : Hp} {f c p : Addr} {ll : List (List Int)} (h : LotAt H p ll) (F : FeedAt c H f) (k : Kp f H H') : LotAt H' p ll := by
  obtain ⟨as, h1, h2⟩ := h
  exact ⟨as, k _ _ (F.tup h1) h1, h2.kp F k⟩
/-- a kind as it should be, of g amounts to m -/
def GoodRow (g m : Int) (r : List Int) : Prop := r.length = g.toNat ∧ (∀ n ∈ r, 0 ≤ n ∧ n ≤ m) ∧ ∃ n ∈ r, 0 < n
theorem pos_of_sum : ∀ {r : List Int}, (∀ n ∈ r, 0 ≤ n) → r.sum ≠ 0 → ∃ n ∈ r, 0 < n
  | [], _, h => absurd rfl h
  | x :: r, h0, h => by
    by_cases hx : 0 < x
    · exact ⟨x, List.mem_cons_self, hx⟩
    · have e : x = 0 := by
        have := h0 x List.mem_cons_self
        omega
      rw [List.sum_cons, e, Int.zero_add] at h
      obtain ⟨n, hn, hp⟩ := pos_of_sum (fun n hn => h0 n (List.mem_cons_of_mem _ hn)) h
      exact ⟨n, List.mem_cons_of_mem _ hn, hp⟩
/-! ### hold -/
theorem scHold : FnScope ["_law_feed_here", "_law_goods_here", "_law_most", "_law_hold_here", "_law_good_here"] ["_law_feed_here", "_law_goods_here", "_law_most"] (defScope sHold) := ⟨rfl, rfl, rfl, by decide +kernel, rfl, by decide +kernel, by decide +kernel⟩
theorem scLot : FnScope ["_law_feed_here", "_law_goods_here", "_law_kinds", "_law_most", "_law_kind"] ["_law_feed_here", "_law_goods_here", "_law_kinds", "_law_most"] (defScope sLot) := ⟨rfl, rfl, rfl, by decide +kernel, rfl, by decide +kernel, by decide +kernel⟩
theorem scNoughts : FnScope ["_law_many"] ["_law_many"] (defScope sNoughts) := ⟨rfl, rfl, rfl, by decide +kernel, rfl, by decide +kernel, by decide +kernel⟩
section
variable {P : Program} {w : World} {K : PySem.W.Frag} {mg : Str → Option Value} {base : Heap}
def spHold : Sp := fun vs H Q _ => ∃ (f c : Addr) (g m : Int), vs = [.ref f, .int g, .int m] ∧ FeedAt c H f ∧ 1 ≤ g ∧ g ≤ 100 ∧ 1 ≤ m ∧ m ≤ 100 ∧
  ∀ H' p ns, Kp f H H' → FeedAt c H' f → H p = none → H' p = some (.tup (ns.map V.int)) → GoodRow g m ns → Q (.ref p) H'
theorem ok_hold {f : Addr} {fd : FuncData} (F : Fun K "_law_hold" "_law_hold" sHold f fd) (B : Bl mg) (CD : Cal P w K mg base CX0 1 "_law_draw" ["_law_feed_here", "_law_many"] spDraw) :
    FnOk P w K mg base CX0 2 f fd ["_law_feed_here", "_law_goods_here", "_law_most"] spHold := by
  obtain ⟨fD, fdD, GD, gD, kD, bD⟩ := CD.ex
  refine F.ok scHold (fun vs H Q E h => ?_) (fun cdv A outer s H vs Q E hr h => ?_)
  · obtain ⟨a, c, g, m, rfl, _⟩ := h
    rfl
  · obtain ⟨a, c, g, m, rfl, Fd, g1, g2, m1, m2, q⟩ := h
    refine ⟨_, pss_cons (ps_setLc (i := 3) (own := [("_law_good_here", 4)]) (g := gName 4) (tt := tYes) rfl scHold.nd rfl rfl (sw_true rfl rfl rfl (by decide +kernel)) (pi_range1 (by rfl) B.range (pa_cons (pv 1) pa_nil))
          (blkOk_by (own := [("_law_good_here", 4)]) (N := ["_law_feed_here", "_law_goods_here", "_law_most", "_law_hold_here", "_law_good_here"]) (sc := defScope sHold) (by decide +kernel)) (fun _ _ _ _ _ => pg_name (i := 4) scHold.nd rfl (Or.inl rfl)) (fun _ _ _ _ _ => pts_nil)
          (fun _ _ _ _ _ => pe_ifExp (pt_cmpR op_gt (pe_call GD hr (by rfl) gD kD bD .nil pass0 (pa_cons (pv 0) (pa_cons pe_int pa_nil))) pe_int (nomark _)) (pe_call GD hr (by rfl) gD kD bD .nil pass0 (pa_cons (pv 0) (pa_cons (pe_op op_add (pv 2) pe_int) pa_nil))) pe_int))
      (pss_cut (ps_if (pt_cmpR op_eq (pe_callB (cr_sum rfl) (by rfl) B.sum (by decide +kernel) (pa_cons (pv 3) pa_nil)) pe_int (nomark _))
          (pss_one (ps_asg (pe_op op_add pe_int (pe_call GD hr (by rfl) gD kD bD .nil pass0 (pa_cons (pv 0) (pa_cons (pv 2) pa_nil)))) (pg_sub (pv 3) (pe_call GD hr (by rfl) gD kD bD .nil pass0 (pa_cons (pv 0) (pa_cons (pv 1) pa_nil))) set_list))) pss_nil)
        (pss_one (ps_ret (pe_callTy call_tuple_of (by rfl) B.tuple (by decide +kernel) (pa_cons (pv 3) pa_nil))))), ?_⟩
    refine ⟨.int g, rfl, g, rfl, by omega, by omega, fun D nD => ?_⟩
    have nDf : D ≠ a := Fd.ne nD
    have nDc : D ≠ c := Fd.neC nD
    refine lc_range (lo := 0) (n := g.toNat) (fun i H' => Kp a H H' ∧ FeedAt c H' a ∧ ∃ ns : List Int, H' D = some (.lst (ns.map V.int)) ∧ ns.length = i ∧ ∀ n ∈ ns, 0 ≤ n ∧ n ≤ m)
      ⟨Kp.new nD, Fd.new nD, [], upd_same, rfl, fun n hn => by cases hn⟩ (fun i H' hi ⟨kp, F', ns, hD, hl, hb⟩ => ?_) (fun H' ⟨kp, F', ns, hD, hl, hb⟩ => ?_)
    · refine ⟨rfl, yes (iteT ?_)⟩
      have more : ∀ (H2 : Hp) (d : Int), Kp a H' H2 → FeedAt c H2 a → 0 ≤ d → d ≤ m → ∃ acc, H2 D = some (.lst acc) ∧ acc.length < sizeLine ∧ Kp a H (upd H2 D (.lst (acc ++ [.int d]))) ∧ FeedAt c (upd H2 D (.lst (acc ++ [.int d]))) a ∧
          ∃ ns : List Int, upd H2 D (.lst (acc ++ [.int d])) D = some (.lst (ns.map V.int)) ∧ ns.length = i + 1 ∧ ∀ n ∈ ns, 0 ≤ n ∧ n ≤ m := fun H2 d k2 F2 d0 d1 => by
        have hD2 := k2 _ _ nDf hD
        refine ⟨_, hD2, ?_, ?_, ?_, ns ++ [d], ?_, ?_, ?_⟩
        · rw [List.length_map]
          exact small1000 (by omega)
        · exact (kp.trans k2).late nD
        · exact F2.put nDf nDc
        · rw [upd_same, List.map_append]
          rfl
        · rw [List.length_append, hl]
          rfl
        · intro n hn
          rcases List.mem_append.mp hn with h | h
          · exact hb n h
          · rw [List.mem_singleton.mp h]
            exact ⟨d0, d1⟩
      refine ⟨.ref a, rfl, a, c, 3, rfl, by decide, by decide, F', fun d1 H1 _ _ k1 F1 => ?_⟩
      refine ⟨d1, 0, rfl, rfl, _, rfl, ite2 (fun _ => ?_) (fun _ => ?_)⟩
      · refine ⟨.ref a, rfl, .int m, rfl, m, 1, rfl, rfl, a, c, m + 1, rfl, by omega, by omega, F1, fun d2 H2 e0 e1 k2 F2 => ?_⟩
        exact more H2 d2 (k1.trans k2) F2 e0 (by omega)
      · exact more H1 0 k1 F1 (by decide) (by omega)
    · -- behind the comprehension
      refine ⟨fun σ' H2 => ∃ ns : List Int, σ' = [some (.ref a), some (.int g), some (.int m), some (.ref D), none] ∧ Kp a H H2 ∧ FeedAt c H2 a ∧ H2 D = some (.lst (ns.map V.int)) ∧ GoodRow g m ns, ?_, ?_⟩
      · refine ⟨.ref D, rfl, D, ns, rfl, SqL.of hD, rfl, _, rfl, ite2 (fun cs => ?_) (fun cs => ?_)⟩
        · refine ⟨.ref a, rfl, .int m, rfl, a, c, m, rfl, by omega, by omega, F', fun d1 H1 e0 e1 k1 F1 => ?_⟩
          refine ⟨1, d1, rfl, rfl, .ref D, rfl, .ref a, rfl, .int g, rfl, a, c, g, rfl, by omega, by omega, F1, fun d2 H2 c0 c1 k2 F2 => ?_⟩
          have hD2 : H2 D = some (.lst (ns.map V.int)) := k2 _ _ nDf (k1 _ _ nDf hD)
          have hj : ixN (ns.map V.int).length d2 = some d2.toNat := by
            unfold ixN
            rw [if_pos c0, if_pos (by rw [List.length_map]; omega)]
          refine ⟨D, _, d2, d2.toNat, rfl, rfl, hD2, hj, ns.set d2.toNat (1 + d1), rfl, ?_, ?_, ?_, ?_, ?_, ?_⟩
          · exact (kp.trans (k1.trans k2)).late nD
          · exact F2.put nDf nDc
          · rw [upd_same, List.map_set]
          · rw [List.length_set]
            exact hl
          · intro n hn
            rcases List.mem_or_eq_of_mem_set hn with h | h
            · exact hb n h
            · rw [h]
              omega
          · exact ⟨1 + d1, List.mem_iff_getElem.mpr ⟨d2.toNat, by rw [List.length_set]; omega, by simp⟩, by omega⟩
        · have hs : ns.sum ≠ 0 := fun z => cs (decide_eq_true (by rw [z]))
          exact ⟨ns, rfl, kp, F', hD, hl, hb, pos_of_sum (fun n hn => (hb n hn).1) hs⟩
      · rintro σ' H2 ⟨ms, rfl, k2, F2, hD2, G2⟩
        refine ⟨.ref D, rfl, D, _, rfl, .inl ⟨SqL.of hD2, fun p np => ?_⟩⟩
        exact q _ p ms (k2.trans (Kp.new np)) (F2.new np) (k2.free (F2.ne np) np) upd_same G2
end
end HL

namespace HL
open PySem PySem.Spec PyProof.Rows L2
open C8 (pss_cut)
section
variable {P : Program} {w : World} {K : PySem.W.Frag} {mg : Str → Option Value} {base : Heap}
/-! ### lots -/
/-- a lot as it should be -/
def GoodLot (g m : Int) (n : Nat) (ll : List (List Int)) : Prop := 1 ≤ ll.length ∧ ll.length ≤ n ∧ ∀ r ∈ ll, GoodRow g m r
def spLot : Sp := fun vs H Q _ => ∃ (f c : Addr) (g kk m : Int), vs = [.ref f, .int g, .int kk, .int m] ∧ FeedAt c H f ∧ 1 ≤ g ∧ g ≤ 100 ∧ 1 ≤ kk ∧ kk ≤ 100 ∧ 1 ≤ m ∧ m ≤ 100 ∧
  ∀ H' p ll, Kp f H H' → FeedAt c H' f → H p = none → LotAt H' p ll → GoodLot g m kk.toNat ll → Q (.ref p) H'
theorem ok_lot {f : Addr} {fd : FuncData} (F : Fun K "_law_lot" "_law_lot" sLot f fd) (B : Bl mg) (CD : Cal P w K mg base CX0 1 "_law_draw" ["_law_feed_here", "_law_many"] spDraw)
    (CH : Cal P w K mg base CX0 2 "_law_hold" ["_law_feed_here", "_law_goods_here", "_law_most"] spHold) : FnOk P w K mg base CX0 3 f fd ["_law_feed_here", "_law_goods_here", "_law_kinds", "_law_most"] spLot := by
  obtain ⟨fD, fdD, GD, gD, kD, bD⟩ := CD.ex
  obtain ⟨fH, fdH, GH, gH, kH, bH⟩ := CH.ex
  refine F.ok scLot (fun vs H Q E h => ?_) (fun cdv A outer s H vs Q E hr h => ?_)
  · obtain ⟨a, c, g, kk, m, rfl, _⟩ := h
    rfl
  · obtain ⟨a, c, g, kk, m, rfl, Fd, g1, g2, n1, n2, m1, m2, q⟩ := h
    refine ⟨_, pss_one (ps_ret (pe_callTy call_tuple_of (by rfl) B.tuple (by decide +kernel) (pa_cons
      (pe_lc (own := [("_law_kind", 4)]) (g := gName 4) (tt := tYes) rfl scLot.nd (pi_range1 (by rfl) B.range (pa_cons (pe_op op_add pe_int (pe_call GD (hr.mono (by decide)) (by rfl) gD kD bD .nil pass0 (pa_cons (pv 0) (pa_cons (pv 2) pa_nil)))) pa_nil))
        (blkOk_by (own := [("_law_kind", 4)]) (N := ["_law_feed_here", "_law_goods_here", "_law_kinds", "_law_most", "_law_kind"]) (sc := defScope sLot) (by decide +kernel)) (fun _ _ _ _ _ => pg_name (i := 4) scLot.nd rfl (Or.inl rfl)) (fun _ _ _ _ _ => pts_nil)
        (fun _ _ _ _ _ => pe_call GH hr (by rfl) gH kH bH .nil pass0 (pa_cons (pv 0) (pa_cons (pv 1) (pa_cons (pv 3) pa_nil))))) pa_nil))), ?_⟩
    refine ⟨.ref a, rfl, .int kk, rfl, a, c, kk, rfl, by omega, by omega, Fd, fun d H1 d0 d1 k1 F1 => ?_⟩
    refine ⟨1, d, rfl, rfl, 1 + d, rfl, by omega, by omega, fun D nD => ?_⟩
    have nDf : D ≠ a := F1.ne nD
    have nDc : D ≠ c := F1.neC nD
    have nD0 : H D = none := k1.free nDf nD
    refine lc_range (lo := 0) (n := (1 + d).toNat) (fun i H' => Kp a H H' ∧ FeedAt c H' a ∧ ∃ (as : List Addr) (ll : List (List Int)), H' D = some (.lst (as.map V.ref)) ∧ Rows H' as ll ∧ ll.length = i ∧ ∀ r ∈ ll, GoodRow g m r)
      ⟨k1.late nD0, F1.new nD, [], [], upd_same, True.intro, rfl, fun n hn => by cases hn⟩ (fun i H' hi ⟨kp, F', as, ll, hD, hR, hl, hb⟩ => ?_) (fun H' ⟨kp, F', as, ll, hD, hR, hl, hb⟩ => ?_)
    · refine ⟨rfl, yes (iteT ?_)⟩
      refine ⟨.ref a, rfl, .int g, rfl, .int m, rfl, a, c, g, m, rfl, F', g1, g2, m1, m2, fun H2 p ns k2 F2 np hp gr => ?_⟩
      have hD2 := k2 _ _ nDf hD
      have nt : ∀ b xs, H2 b = some (.tup xs) → upd H2 D (.lst (as.map V.ref ++ [.ref p])) b = some (.tup xs) := fun b xs e => by
        rw [upd_ne (ne_of e hD2 (fun z => by cases z))]
        exact e
      refine ⟨_, hD2, ?_, (kp.trans k2).late nD0, F2.put nDf nDc, as ++ [p], ll ++ [ns], ?_, ?_, ?_, ?_⟩
      · rw [List.length_map, hR.len]
        exact small1000 (by omega)
      · rw [upd_same, List.map_append]
        rfl
      · exact ((hR.kp F' k2).mono nt).app ⟨nt _ _ hp, True.intro⟩
      · rw [List.length_append, hl]
        rfl
      · intro r hr
        rcases List.mem_append.mp hr with h | h
        · exact hb r h
        · rw [List.mem_singleton.mp h]
          exact gr
    · refine ⟨D, _, rfl, .inl ⟨SqL.of hD, fun p np => ?_⟩⟩
      exact q _ p ll (kp.trans (Kp.new np)) (F'.new np) (kp.free (F'.ne np) np) ⟨as, upd_same, hR.same (same_new np)⟩ ⟨by omega, by omega, hb⟩
def spNoughts : Sp := fun vs H Q _ => ∃ n : Int, vs = [.int n] ∧ 1 ≤ n ∧ n ≤ 1000 ∧ ∀ H' p, Same H H' → H p = none → H' p = some (.tup ((List.replicate n.toNat (0 : Int)).map V.int)) → Q (.ref p) H'
theorem rep_one (v : V) : ∀ n : Nat, (List.replicate n [v]).flatten = List.replicate n v
  | 0 => rfl
  | n + 1 => by
    rw [List.replicate_succ, List.flatten_cons, rep_one v n, List.replicate_succ]
    rfl
theorem ok_noughts {f : Addr} {fd : FuncData} {k : Nat} (F : Fun K "_law_noughts" "_law_noughts" sNoughts f fd) : FnOk P w K mg base CX0 (k + 1) f fd ["_law_many"] spNoughts := by
  refine F.ok scNoughts (fun vs H Q E h => ?_) (fun cdv A outer s H vs Q E hr h => ?_)
  · obtain ⟨n, rfl, _⟩ := h
    rfl
  · obtain ⟨n, rfl, n1, n2, q⟩ := h
    refine ⟨_, pss_one (ps_ret (pe_op op_repA (pe_tup (pa_cons pe_int pa_nil)) (pv 0))), ?_⟩
    refine ⟨(by show 1 ≤ sizeLine; decide), fun t nt => ?_⟩
    refine ⟨.int n, rfl, t, n, [.int 0], rfl, rfl, SqT.of upd_same, by decide, n1, n2, by decide, fun e => ?_, fun e p np => ?_⟩
    · subst e
      exact q _ t (same_new nt) nt upd_same
    · refine q _ p ((same_new nt).trans (same_new np)) ((same_new nt).free np) ?_
      rw [upd_same, rep_one, List.map_replicate]
end
end HL

namespace HL
open PySem PySem.Spec PyProof.Rows L2
open C8 (pss_cut)
/-! ### what a lot must be -/
def okRow (g : Nat) (r : List Int) : Bool := decide (r.length = g) && (r.all (fun n => decide (0 ≤ n ∧ n ≤ 6)) && r.any (fun n => decide (0 < n)))
def flawIn (g : Nat) (ll : List (List Int)) : Option Int := (ll.findIdx? fun r => !okRow g r).map fun i => (i : Int)
def width (ll : List (List Int)) : Nat := (ll.headD []).length
def flaw (ll : List (List Int)) : Option Int := if 1 ≤ ll.length ∧ ll.length ≤ 5 ∧ 1 ≤ width ll ∧ width ll ≤ 3 then flawIn (width ll) ll else some (-1)
def flawV (ll : List (List Int)) : V := match flaw ll with
  | none => .non
  | some k => .int k
theorem flawIn_at {g : Nat} {ll : List (List Int)} {i : Nat} {r : List Int} (h : ll[i]? = some r) (hb : okRow g r = false) (ha : ∀ (j : Nat) (r' : List Int), j < i → ll[j]? = some r' → okRow g r' = true) : flawIn g ll = some (i : Int) := by
  unfold flawIn
  obtain ⟨hi, he⟩ := List.getElem?_eq_some_iff.mp h
  have e : ll.findIdx? (fun r => !okRow g r) = some i := by
    refine List.findIdx?_eq_some_iff_getElem.mpr ⟨hi, by rw [he, hb]; rfl, fun j hj => ?_⟩
    rw [ha j ll[j] hj (List.getElem?_eq_getElem (by omega))]
    decide
  rw [e]
  rfl
theorem flawIn_none {g : Nat} {ll : List (List Int)} (ha : ∀ (j : Nat) (r' : List Int), j < ll.length → ll[j]? = some r' → okRow g r' = true) : flawIn g ll = none := by
  unfold flawIn
  have e : ll.findIdx? (fun r => !okRow g r) = none := by
    refine List.findIdx?_eq_none_iff.mpr fun r hr => ?_
    obtain ⟨j, hj, hjr⟩ := List.mem_iff_getElem.mp hr
    rw [ha j r hj (by rw [List.getElem?_eq_getElem hj, hjr])]
    rfl
  rw [e]
  rfl
theorem all_in {r : List Int} : (r.all (fun n => decide (0 ≤ n ∧ n ≤ 6))) = true ↔ ∀ n ∈ r, 0 ≤ n ∧ n ≤ 6 := by
  rw [List.all_eq_true]
  exact ⟨fun h n hn => of_decide_eq_true (h n hn), fun h n hn => decide_eq_true (h n hn)⟩
theorem any_pos {r : List Int} : (r.any (fun n => decide (0 < n))) = true ↔ ∃ n ∈ r, 0 < n := by
  rw [List.any_eq_true]
  exact ⟨fun ⟨n, hn, h⟩ => ⟨n, hn, of_decide_eq_true h⟩, fun ⟨n, hn, h⟩ => ⟨n, hn, decide_eq_true h⟩⟩
theorem okRow_iff {g : Nat} {r : List Int} : okRow g r = true ↔ r.length = g ∧ (∀ n ∈ r, 0 ≤ n ∧ n ≤ 6) ∧ ∃ n ∈ r, 0 < n := by
  unfold okRow
  rw [Bool.and_eq_true, Bool.and_eq_true, decide_eq_true_iff, all_in, any_pos]
theorem sum_pos {r : List Int} (h0 : ∀ n ∈ r, 0 ≤ n) (h : ∃ n ∈ r, 0 < n) : 0 < r.sum := by
  induction r with
  | nil => obtain ⟨n, hn, _⟩ := h; cases hn
  | cons x r ih =>
    rw [List.sum_cons]
    have x0 := h0 x List.mem_cons_self
    have rest : 0 ≤ r.sum := by
      clear ih h
      induction r with
      | nil => exact Int.le_refl _
      | cons y r ih2 =>
        rw [List.sum_cons]
        have := h0 y (List.mem_cons_of_mem _ List.mem_cons_self)
        have := ih2 fun n hn => h0 n (by
          rcases List.mem_cons.mp hn with h | h
          · rw [h]; exact List.mem_cons_self
          · exact List.mem_cons_of_mem _ (List.mem_cons_of_mem _ h))
        omega
    obtain ⟨n, hn, hp⟩ := h
    rcases List.mem_cons.mp hn with h | h
    · omega
    · have := ih (fun n hn => h0 n (List.mem_cons_of_mem _ hn)) ⟨n, h, hp⟩
      omega
/-- 1 <= x <= 5 as a test -/
theorem chainI {i j L : Int} {H : Hp} {Q : Bool → Hp → Prop} (h : Q (decide (i ≤ L ∧ L ≤ j)) H) :
    if decide (i ≤ L) = true then (∃ a b : Int, V.int L = V.int a ∧ V.int j = V.int b ∧ ∃ k, V.bl (decide (a ≤ b)) = V.bl k ∧ Q k H) else ∃ k, V.bl false = V.bl k ∧ Q k H := by
  by_cases c : i ≤ L
  · rw [if_pos (decide_eq_true c)]
    refine ⟨L, j, rfl, rfl, _, rfl, ?_⟩
    rw [show decide (L ≤ j) = decide (i ≤ L ∧ L ≤ j) by simp [c]]
    exact h
  · rw [if_neg (fun z => c (of_decide_eq_true z))]
    refine ⟨false, rfl, ?_⟩
    rw [show false = decide (i ≤ L ∧ L ≤ j) by simp [c]]
    exact h
theorem Rows.head {H : Hp} {as : List Addr} {ll : List (List Int)} (h : Rows H as ll) (hl : 1 ≤ ll.length) : ∃ a, as[0]? = some a ∧ H a = some (.tup ((ll.headD []).map V.int)) ∧ (ll.headD []).length = width ll := by
  cases as with
  | nil =>
    cases ll with
    | nil => simp at hl
    | cons r rs => exact h.elim
  | cons a as =>
    cases ll with
    | nil => simp at hl
    | cons r rs => exact ⟨a, rfl, h.1, rfl⟩
end HL

namespace HL
open PySem PySem.Spec PyProof.Rows L2
open C8 (pss_cut)
open RZ (pi_zipA ItzT iZipA)
theorem scIH : FnScope ["hold", "goods", "amount"] ["hold", "goods"] (defScope sIsHold) := ⟨rfl, rfl, rfl, by decide +kernel, rfl, by decide +kernel, by decide +kernel⟩
theorem scLk : FnScope ["lot", "kind", "hold"] ["lot"] (defScope sLook) := ⟨rfl, rfl, rfl, by decide +kernel, rfl, by decide +kernel, by decide +kernel⟩
theorem scGo : FnScope ["lot"] ["lot"] (defScope sGoods) := ⟨rfl, rfl, rfl, by decide +kernel, rfl, by decide +kernel, by decide +kernel⟩
/-- 0 <= x <= 6 as a value -/
theorem chainV {i j L : Int} {H : Hp} {σ : L2.St} {Q : VK} (h : Q (.bl (decide (i ≤ L ∧ L ≤ j))) H) :
    if decide (i ≤ L) = true then tC (.int j) σ H (fun v H4 => rI0 (fun i j => V.bl (decide (i ≤ j))) (.int L) v H4 Q) else Q (.bl false) H := by
  by_cases c : i ≤ L
  · rw [if_pos (decide_eq_true c)]
    refine ⟨L, j, rfl, rfl, ?_⟩
    show Q (.bl (decide (L ≤ j))) H
    rw [show decide (L ≤ j) = decide (i ≤ L ∧ L ≤ j) by simp [c]]
    exact h
  · rw [if_neg (fun z => c (of_decide_eq_true z))]
    rw [show false = decide (i ≤ L ∧ L ≤ j) by simp [c]]
    exact h
section
variable {P : Program} {w : World} {K : PySem.W.Frag} {mg : Str → Option Value} {base : Heap}
def spIsHold : Sp := fun vs H Q _ => ∃ (a : Addr) (g : Nat) (r : List Int), vs = [.ref a, .int (g : Int)] ∧ H a = some (.tup (r.map V.int)) ∧ r.length ≤ 1000 ∧ 1 ≤ g ∧ ∀ H', Same H H' → Q (.bl (okRow g r)) H'
structure Consts (mg : Str → Option Value) : Prop where
  hold : ∃ t, mg "MOST_HOLD" = some (.int 6 t)
  kinds : ∃ t, mg "MOST_KINDS" = some (.int 5 t)
  goods : ∃ t, mg "MOST_GOODS" = some (.int 3 t)
theorem ok_isHold {f : Addr} {fd : FuncData} {k : Nat} (F : Fun K "is_hold" "is_hold" sIsHold f fd) (B : Bl mg) (M : Consts mg) : FnOk P w K mg base CX0 (k + 1) f fd ["hold", "goods"] spIsHold := by
  obtain ⟨t6, m6⟩ := M.hold
  refine F.ok scIH (fun vs H Q E h => ?_) (fun cdv A outer s H vs Q E hr h => ?_)
  · obtain ⟨a, g, r, rfl, _⟩ := h
    rfl
  · obtain ⟨a, g, r, rfl, ha, hz, g1, q⟩ := h
    refine ⟨_, pss_one (ps_ret (pe_and (pe_cmpR op_eq (pe_callB call_len_seq (by rfl) B.len PySem.boot_len (pa_cons (pv 0) pa_nil)) (pv 1) (nomark _))
      (pe_and (pe_callB (cr_all rfl) (by rfl) B.all (by decide +kernel) (pa_cons (pe_lc (own := [("amount", 2)]) (g := gName 2) (tt := tYes) rfl scIH.nd (pi_tup (pv 0))
          (blkOk_by (own := [("amount", 2)]) (N := ["hold", "goods", "amount"]) (sc := defScope sIsHold) (by decide +kernel)) (fun _ _ _ _ _ => pg_name (i := 2) scIH.nd rfl (Or.inl rfl)) (fun _ _ _ _ _ => pts_nil)
          (fun _ _ _ _ _ => pe_chain op_le op_le pe_int (pv 2) (pe_glob (v := .int 6) rfl m6 ⟨_, rfl⟩))) pa_nil))
        (pe_one (pe_cmpR op_gt (pe_callB (cr_maxT rfl hr.units) (by rfl) B.max (by decide +kernel) (pa_cons (pv 0) pa_nil)) pe_int (nomark _)))))), ?_⟩
    have sA : SqT K H a (r.map V.int) := SqT.of ha
    refine ⟨.ref a, rfl, a, _, rfl, .inr sA, .int (g : Int), rfl, rfl, _, rfl, ?_⟩
    rw [List.length_map]
    refine ite2 (fun c1 => ?_) (fun c1 => ?_)
    · have hl : r.length = g := by
        have := V.int.inj (of_decide_eq_true c1)
        omega
      refine ⟨.ref a, rfl, a, rfl, ⟨_, sA⟩, fun D nD => ?_⟩
      refine lc_tup (K := K) (a := a) (xs := r.map V.int) (fun i H' => Same H H' ∧ H' D = some (.lst (((r.take i).map fun n => decide (0 ≤ n ∧ n ≤ 6)).map V.bl))) ⟨same_new nD, upd_same⟩ (fun i H' _ ⟨sm, _⟩ => SqT.of (sm _ _ ha)) (fun i x H' hx ⟨sm, hD⟩ => ?_) (fun H' ⟨sm, hD⟩ => ?_)
      · obtain ⟨n, hn, rfl⟩ : ∃ n, r[i]? = some n ∧ x = V.int n := by
          rw [List.getElem?_map] at hx
          cases e : r[i]? with
          | none => rw [e] at hx; cases hx
          | some n => rw [e] at hx; exact ⟨n, rfl, (Option.some.inj hx).symm⟩
        refine ⟨rfl, yes (iteT ?_)⟩
        refine ⟨.int n, rfl, 0, n, rfl, rfl, _, rfl, chainV ?_⟩
        refine ⟨_, hD, ?_, same_late sm nD, ?_⟩
        · rw [List.length_map, List.length_map]
          exact small1000 (Nat.le_trans (List.length_take_le' _ _) hz)
        · rw [upd_same, List.take_add_one, hn, List.map_append, List.map_append]
          rfl
      · rw [List.length_map, List.take_length] at hD
        refine ⟨D, _, rfl, SqL.of hD, _, rfl, ?_⟩
        have eall : ((r.map fun n => decide (0 ≤ n ∧ n ≤ 6)).all id) = r.all (fun n => decide (0 ≤ n ∧ n ≤ 6)) := by
          rw [List.all_map]
          rfl
        rw [eall]
        refine ite2 (fun c2 => ?_) (fun c2 => ?_)
        · refine ⟨.ref a, rfl, a, r, rfl, SqT.of (sm _ _ ha), by omega, fun mx hmx hmax => ?_⟩
          refine ⟨mx, 0, rfl, rfl, ?_⟩
          have e : decide ((0 : Int) < mx) = okRow g r := by
            unfold okRow
            rw [decide_eq_true hl, c2, Bool.true_and, Bool.true_and]
            by_cases z : 0 < mx
            · rw [decide_eq_true z, any_pos.mpr ⟨mx, hmx, z⟩]
            · rw [decide_eq_false z]
              cases y : r.any (fun n => decide (0 < n)) with
              | false => rfl
              | true =>
                obtain ⟨n, hn, h0⟩ := any_pos.mp y
                have := hmax n hn
                omega
          have q1 := q H' sm
          rw [← e] at q1
          exact q1
        · have e : okRow g r = false := by
            unfold okRow
            rw [Bool.eq_false_iff.mpr c2, Bool.false_and, Bool.and_false]
          have q1 := q H' sm
          rw [e] at q1
          exact q1
    · have e : okRow g r = false := by
        unfold okRow
        rw [decide_eq_false (fun z => c1 (decide_eq_true (by rw [z]))), Bool.false_and]
      have q1 := q H (Same.refl _)
      rw [e] at q1
      exact q1
end
theorem flaw_ok {ll : List (List Int)} (h : flaw ll = none) : 1 ≤ ll.length ∧ ll.length ≤ 5 ∧ 1 ≤ width ll ∧ width ll ≤ 3 := by
  unfold flaw at h
  by_cases c : 1 ≤ ll.length ∧ ll.length ≤ 5 ∧ 1 ≤ width ll ∧ width ll ≤ 3
  · exact c
  · rw [if_neg c] at h
    cases h
theorem flaw_rows {ll : List (List Int)} (h : flaw ll = none) : ∀ r ∈ ll, r.length = width ll ∧ ∀ n ∈ r, 0 ≤ n ∧ n ≤ 6 := by
  have h0 := flaw_ok h
  unfold flaw at h
  rw [if_pos ⟨h0.1, h0.2.1, h0.2.2.1, h0.2.2.2⟩] at h
  unfold flawIn at h
  have e : ll.findIdx? (fun r => !okRow (width ll) r) = none := by
    cases z : ll.findIdx? (fun r => !okRow (width ll) r) with
    | none => rfl
    | some i => rw [z] at h; cases h
  intro r hr
  have := List.findIdx?_eq_none_iff.mp e r hr
  have b : okRow (width ll) r = true := by
    cases z : okRow (width ll) r with
    | true => rfl
    | false => rw [z] at this; cases this
  obtain ⟨o1, o2, _⟩ := okRow_iff.mp b
  exact ⟨o1, o2⟩
theorem nilA {σ : L2.St} {H : Hp} {Q : List V → Hp → Prop} (h : Q [] H) : tNil σ H Q := h
/-- i <= x <= e, e any expression -/
theorem chainE {i j L : Int} {te : TE} {σ : L2.St} {H : Hp} {Q : Bool → Hp → Prop} (hte : ∀ Q' : VK, Q' (.int j) H → te σ H Q') (h : Q (decide (i ≤ L ∧ L ≤ j)) H) :
    if decide (i ≤ L) = true then te σ H (fun v H4 => rI0 (fun i j => V.bl (decide (i ≤ j))) (.int L) v H4 (fun x H' => ∃ k, x = .bl k ∧ Q k H')) else ∃ k, V.bl false = V.bl k ∧ Q k H := by
  by_cases c : i ≤ L
  · rw [if_pos (decide_eq_true c)]
    refine hte _ ⟨L, j, rfl, rfl, _, rfl, ?_⟩
    rw [show decide (L ≤ j) = decide (i ≤ L ∧ L ≤ j) by simp [c]]
    exact h
  · rw [if_neg (fun z => c (of_decide_eq_true z))]
    refine ⟨false, rfl, ?_⟩
    rw [show false = decide (i ≤ L ∧ L ≤ j) by simp [c]]
    exact h
/-- i <= x < e -/
theorem chainF {i j L : Int} {te : TE} {σ : L2.St} {H : Hp} {Q : Bool → Hp → Prop} (hte : ∀ Q' : VK, Q' (.int j) H → te σ H Q') (h : Q (decide (i ≤ L ∧ L < j)) H) :
    if decide (i ≤ L) = true then te σ H (fun v H4 => rI0 (fun i j => V.bl (decide (i < j))) (.int L) v H4 (fun x H' => ∃ k, x = .bl k ∧ Q k H')) else ∃ k, V.bl false = V.bl k ∧ Q k H := by
  by_cases c : i ≤ L
  · rw [if_pos (decide_eq_true c)]
    refine hte _ ⟨L, j, rfl, rfl, _, rfl, ?_⟩
    rw [show decide (L < j) = decide (i ≤ L ∧ L < j) by simp [c]]
    exact h
  · rw [if_neg (fun z => c (of_decide_eq_true z))]
    refine ⟨false, rfl, ?_⟩
    rw [show false = decide (i ≤ L ∧ L < j) by simp [c]]
    exact h
end HL

namespace HL
open PySem PySem.Spec PyProof.Rows L2
open C8 (pss_cut)
/-! ### tuples cut and joined -/
theorem sz1000 {n : Nat} (h : n ≤ 1000) : n ≤ sizeLine := Nat.le_of_lt (small1000 h)
theorem cat_read {K : PySem.W.Frag} {H : Hp} {a b : Addr} {xs ys : List V} {Q : VK} (ha : H a = some (.tup xs)) (hb : H b = some (.tup ys)) (hz : xs.length + ys.length ≤ 1000)
    (q : ∀ p H', Same H H' → H' p = some (.tup (xs ++ ys)) → Q (.ref p) H') : rCatA K (.ref a) (.ref b) H Q := by
  refine ⟨a, b, xs, ys, rfl, rfl, SqT.of ha, SqT.of hb, sz1000 hz, fun e => ?_, fun _ e => ?_, fun _ _ p np => q p _ (same_new np) upd_same⟩
  · subst e
    exact q b H (Same.refl _) hb
  · subst e
    exact q a H (Same.refl _) (by rw [List.append_nil]; exact ha)
theorem slice_read {K : PySem.W.Frag} {H : Hp} {a : Addr} {xs : List V} {lo hi : Option Int} {Q : VK} (ha : H a = some (.tup xs)) (q : ∀ p H', Same H H' → H' p = some (.tup (cutV xs lo hi)) → Q (.ref p) H') : rSlA K (.ref a) lo hi H Q := by
  refine ⟨a, xs, rfl, SqT.of ha, fun e => ?_, fun _ p np => q p _ (same_new np) upd_same⟩
  refine q a H (Same.refl _) ?_
  unfold cutV
  rw [e.1, e.2, List.drop_zero, Nat.sub_zero, List.take_length]
  exact ha
theorem cut_ex (L : Nat) (lo hi : Option Int) : ∃ n m : Nat, ∀ {α : Type} (f : α → V) (l : List α), l.length = L → cutV (l.map f) lo hi = ((l.drop n).take m).map f :=
  ⟨HT.sIx L 0 lo, HT.sIx L L hi - HT.sIx L 0 lo, fun f l h => by
    unfold cutV
    rw [List.length_map, h, List.map_take, List.map_drop]⟩
/-- a tuple of ints, a tuple of rows -/
def IntsAt (H : Hp) (p : Addr) (ns : List Int) : Prop := H p = some (.tup (ns.map V.int))
def RowsAt (H : Hp) (p : Addr) (as : List Addr) (ll : List (List Int)) : Prop := H p = some (.tup (as.map V.ref)) ∧ Rows H as ll
theorem IntsAt.same {H H' : Hp} {p : Addr} {ns : List Int} (h : IntsAt H p ns) (s : Same H H') : IntsAt H' p ns := s _ _ h
theorem RowsAt.same {H H' : Hp} {p : Addr} {as : List Addr} {ll : List (List Int)} (h : RowsAt H p as ll) (s : Same H H') : RowsAt H' p as ll := ⟨s _ _ h.1, h.2.same s⟩
theorem RowsAt.kp {H H' : Hp} {f c p : Addr} {as : List Addr} {ll : List (List Int)} (h : RowsAt H p as ll) (F : FeedAt c H f) (k : Kp f H H') : RowsAt H' p as ll := ⟨k _ _ (F.tup h.1) h.1, h.2.kp F k⟩
theorem RowsAt.lot {H : Hp} {p : Addr} {as : List Addr} {ll : List (List Int)} (h : RowsAt H p as ll) : LotAt H p ll := ⟨as, h.1, h.2⟩
theorem IntsAt.kp {H H' : Hp} {f c p : Addr} {ns : List Int} (h : IntsAt H p ns) (F : FeedAt c H f) (k : Kp f H H') : IntsAt H' p ns := k _ _ (F.tup h) h
theorem cat_ints {K : PySem.W.Frag} {H : Hp} {a b : Addr} {xs ys : List Int} {Q : VK} (ha : IntsAt H a xs) (hb : IntsAt H b ys) (hz : xs.length + ys.length ≤ 1000)
    (q : ∀ p H', Same H H' → IntsAt H' p (xs ++ ys) → Q (.ref p) H') : rCatA K (.ref a) (.ref b) H Q :=
  cat_read ha hb (by rw [List.length_map, List.length_map]; exact hz) fun p H' s h => q p H' s (by unfold IntsAt; rw [List.map_append]; exact h)
theorem cat_rows {K : PySem.W.Frag} {H : Hp} {a b : Addr} {as bs : List Addr} {ll mm : List (List Int)} {Q : VK} (ha : RowsAt H a as ll) (hb : RowsAt H b bs mm) (hz : ll.length + mm.length ≤ 1000)
    (q : ∀ p H', Same H H' → RowsAt H' p (as ++ bs) (ll ++ mm) → Q (.ref p) H') : rCatA K (.ref a) (.ref b) H Q :=
  cat_read ha.1 hb.1 (by rw [List.length_map, List.length_map, ha.2.len, hb.2.len]; exact hz) fun p H' s h => q p H' s ⟨by rw [List.map_append]; exact h, (ha.2.same s).app (hb.2.same s)⟩
theorem slice_ints {K : PySem.W.Frag} {H : Hp} {a : Addr} {xs : List Int} {lo hi : Option Int} {Q : VK} (ha : IntsAt H a xs) (q : ∀ p H' n m, Same H H' → IntsAt H' p ((xs.drop n).take m) → Q (.ref p) H') : rSlA K (.ref a) lo hi H Q := by
  obtain ⟨n, m, e⟩ := cut_ex xs.length lo hi
  exact slice_read ha fun p H' s h => q p H' n m s (by unfold IntsAt; rw [← e V.int xs rfl]; exact h)
theorem slice_rows {K : PySem.W.Frag} {H : Hp} {a : Addr} {as : List Addr} {ll : List (List Int)} {lo hi : Option Int} {Q : VK} (ha : RowsAt H a as ll)
    (q : ∀ p H' n m, Same H H' → RowsAt H' p ((as.drop n).take m) ((ll.drop n).take m) → Q (.ref p) H') : rSlA K (.ref a) lo hi H Q := by
  obtain ⟨n, m, e⟩ := cut_ex as.length lo hi
  exact slice_read ha.1 fun p H' s h => q p H' n m s ⟨by rw [← e V.ref as rfl]; exact h, ((ha.2.same s).drop n).take m⟩
theorem len_cut {α : Type} (l : List α) (n m : Nat) : ((l.drop n).take m).length ≤ l.length := by
  rw [List.length_take, List.length_drop]
  omega
theorem mem_cut {α : Type} {l : List α} {n m : Nat} {x : α} (h : x ∈ (l.drop n).take m) : x ∈ l := List.mem_of_mem_drop (List.mem_of_mem_take h)
theorem one_row {H : Hp} {t r : Addr} {row : List Int} (h : IntsAt H r row) (nt : H t = none) : RowsAt (upd H t (.tup [.ref r])) t [r] [row] := ⟨upd_same, ⟨(same_new nt) _ _ h, True.intro⟩⟩
theorem sz_1 (v : V) : [v].length ≤ sizeLine := by
  show 1 ≤ sizeLine
  decide
theorem noPart {σ : L2.St} {H : Hp} {Q : Option Int → Hp → Prop} (h : Q none H) : tNoPart σ H Q := h
end HL

set_option pp.maxSteps 3000
namespace HL
open PySem PySem.Spec PyProof.Rows L2
open C8 (pss_cut)
abbrev G30 : Int := 1000000000000000000000000000000
section
variable {P : Program} {w : World} {K : PySem.W.Frag} {mg : Str → Option Value} {base : Heap}
theorem okRow_all {ll : List (List Int)} (h : flaw ll = none) : ∀ r ∈ ll, okRow (width ll) r = true := fun r hr => by
  have h0 := flaw_ok h
  unfold flaw at h
  rw [if_pos ⟨h0.1, h0.2.1, h0.2.2.1, h0.2.2.2⟩] at h
  unfold flawIn at h
  have e : ll.findIdx? (fun r => !okRow (width ll) r) = none := by
    cases z : ll.findIdx? (fun r => !okRow (width ll) r) with
    | none => rfl
    | some i => rw [z] at h; cases h
  have := List.findIdx?_eq_none_iff.mp e r hr
  cases z : okRow (width ll) r with
  | true => rfl
  | false => rw [z] at this; cases this
/-! ### a lot that is one -/
def spLook0 : Sp := fun vs H Q _ => ∃ (p : Addr) (as : List Addr) (ll : List (List Int)), vs = [.ref p] ∧ RowsAt H p as ll ∧ flaw ll = none ∧ ∀ H', Same H H' → Q .non H'
theorem ok_look0 {f : Addr} {fd : FuncData} (F : Fun K "look_lot" "look_lot" sLook f fd) (B : Bl mg) (M : Consts mg) (CH : Cal P w K mg base CX0 1 "is_hold" ["hold", "goods"] spIsHold) : FnOk P w K mg base CX0 2 f fd ["lot"] spLook0 := by
  obtain ⟨t5, m5⟩ := M.kinds
  obtain ⟨t3, m3⟩ := M.goods
  obtain ⟨fH, fdH, GH, gH, kH, bH⟩ := CH.ex
  refine F.ok scLk (fun vs H Q E h => ?_) (fun cdv A outer s H vs Q E hr h => ?_)
  · obtain ⟨p, as, ll, rfl, _⟩ := h
    rfl
  · obtain ⟨p, as, ll, rfl, hL, ef, q0⟩ := h
    have hok := flaw_ok ef
    have hrows := flaw_rows ef
    have hlen := hL.2.len
    refine ⟨_, pss_cons (ps_if (PW.pt (pw_or (pt_not (pt_chain op_le op_le pe_int (pe_callB call_len_seq (by rfl) B.len PySem.boot_len (pa_cons (pv 0) pa_nil)) (pe_glob (v := .int 5) rfl m5 ⟨_, rfl⟩)))
          (pw_or1 (pt_not (pt_chain op_le op_le pe_int (pe_callB call_len_seq (by rfl) B.len PySem.boot_len (pa_cons (pe_ix ix_tup (pv 0) pe_int (fun _ _ => rfl)) pa_nil)) (pe_glob (v := .int 3) rfl m3 ⟨_, rfl⟩)))))) pss_never pss_nil)
      (pss_one (ps_for PassesOwn.never rfl (pi_enumT (by rfl) B.enumerate (pa_cons (pv 0) pa_nil)) (pg_tup rfl (pgs_cons (pg_name (i := 1) scLk.nd rfl (.inl rfl)) (pgs_cons (pg_name (i := 2) scLk.nd rfl (.inl rfl)) pgs_nil)))
        (pss_one (ps_if (pt_not (pt_val (pe_call GH hr (by rfl) gH kH bH .nil pass0 (pa_cons (pv 2) (pa_cons (pe_callB call_len_seq (by rfl) B.len PySem.boot_len (pa_cons (pe_ix ix_tup (pv 0) pe_int (fun _ _ => rfl)) pa_nil)) pa_nil))))) pss_never pss_nil)))), ?_⟩
    have sP : SqT K H p (as.map V.ref) := SqT.of hL.1
    obtain ⟨a0, ha0, hh0, hw⟩ := hL.2.head hok.1
    have at0 : atI (as.map V.ref) 0 = some (.ref a0) := atI_nat (j := 0) (by rw [List.getElem?_map, ha0]; rfl)
    refine ⟨.ref p, rfl, p, _, rfl, .inr sP, 1, _, rfl, rfl, _, rfl, chainI ?_⟩
    rw [List.length_map, hlen, decide_eq_true (show (1 : Int) ≤ (ll.length : Nat) ∧ ((ll.length : Nat) : Int) ≤ 5 by omega)]
    refine iteF ?_
    refine ⟨.ref p, rfl, p, _, 0, .ref a0, rfl, rfl, sP, at0, a0, _, rfl, .inr (SqT.of hh0), 1, _, rfl, rfl, _, rfl, chainI ?_⟩
    rw [List.length_map, hw, decide_eq_true (show (1 : Int) ≤ (width ll : Nat) ∧ ((width ll : Nat) : Int) ≤ 3 by omega)]
    refine iteF ?_
    refine ⟨.ref p, rfl, p, _, rfl, sP, ?_⟩
    refine ⟨fun i m σ H' => i + m = as.length ∧ Same H H' ∧ (∃ y1 y2, σ = [some (.ref p), y1, y2]), ⟨as.length, by omega, Same.refl _, ⟨none, none, rfl⟩⟩, fun i m σ H' hW => ?_⟩
    obtain ⟨em, sm, ⟨y1, y2, rfl⟩⟩ := hW
    have sP' : SqT K H' p (as.map V.ref) := SqT.of (sm _ _ hL.1)
    by_cases hi : i < as.length
    · have hai : as[i]? = some as[i] := List.getElem?_eq_getElem hi
      obtain ⟨r, hr1, hr2⟩ := hL.2.at hai
      have g1 : (as.map V.ref)[i]? = some (.ref as[i]) := by rw [List.getElem?_map, hai]; rfl
      refine .inr ⟨⟨_, _, sP', g1⟩, fun σ' H2 => Same H H2 ∧ (∃ y1 y2, σ' = [some (.ref p), y1, y2]), fun σ' H2 hN => ⟨m - 1, by omega, by omega, hN⟩, fun x H2 hy => ?_⟩
      obtain ⟨T2, x2, rfl, nT, rfl, f2⟩ := hy
      have ex2 : x2 = .ref as[i] := Option.some.inj ((f2 _ sP').symm.trans g1)
      subst ex2
      have s3 : Same H (upd H' T2 (.tup [.int (i : Nat), .ref as[i]])) := sm.trans (same_new nT)
      refine ⟨T2, _, rfl, SqT.of upd_same, rfl, _, _, rfl, _, _, rfl, rfl, ?_⟩
      refine ⟨.ref as[i], rfl, .ref p, rfl, p, _, 0, .ref a0, rfl, rfl, SqT.of (s3 _ _ hL.1), at0, a0, _, rfl, .inr (SqT.of (s3 _ _ hh0)), as[i], width ll, r, ?_, s3 _ _ hr2, by have := (hrows r (List.mem_of_getElem? hr1)).1; omega, hok.2.2.1, fun H4 s4 => ⟨_, rfl, ?_⟩⟩
      · rw [List.length_map, hw]
        rfl
      · rw [okRow_all ef r (List.mem_of_getElem? hr1)]
        exact iteF ⟨s3.trans s4, ⟨_, _, rfl⟩⟩
    · exact .inl ⟨⟨_, sP', by rw [List.length_map]; omega⟩, q0 H' sm⟩
def spGoods0 : Sp := fun vs H Q _ => ∃ (p : Addr) (as : List Addr) (ll : List (List Int)), vs = [.ref p] ∧ RowsAt H p as ll ∧ flaw ll = none ∧ ∀ H', Same H H' → Q (.int (width ll : Nat)) H'
theorem ok_goods0 {f : Addr} {fd : FuncData} (F : Fun K "goods_of" "goods_of" sGoods f fd) (B : Bl mg) (CL : Cal P w K mg base CX0 2 "look_lot" ["lot"] spLook0) : FnOk P w K mg base CX0 3 f fd ["lot"] spGoods0 := by
  obtain ⟨fL, fdL, GL, gL, kL, bL⟩ := CL.ex
  refine F.ok scGo (fun vs H Q E h => ?_) (fun cdv A outer s H vs Q E hr h => ?_)
  · obtain ⟨p, as, ll, rfl, _⟩ := h
    rfl
  · obtain ⟨p, as, ll, rfl, hL, ef, q0⟩ := h
    refine ⟨_, pss_cons (ps_expr (pe_call GL hr (by rfl) gL kL bL .nil pass0 (pa_cons (pv 0) pa_nil)))
      (pss_one (ps_ret (pe_callB call_len_seq (by rfl) B.len PySem.boot_len (pa_cons (pe_ix ix_tup (pv 0) pe_int (fun _ _ => rfl)) pa_nil)))), ?_⟩
    refine ⟨.ref p, rfl, p, as, ll, rfl, hL, ef, fun H' sm => ?_⟩
    obtain ⟨a0, ha0, hh0, hw⟩ := (hL.same sm).2.head (flaw_ok ef).1
    have at0 : atI (as.map V.ref) 0 = some (.ref a0) := atI_nat (j := 0) (by rw [List.getElem?_map, ha0]; rfl)
    refine ⟨.ref p, rfl, p, _, 0, .ref a0, rfl, rfl, SqT.of (hL.same sm).1, at0, a0, _, rfl, .inr (SqT.of hh0), ?_⟩
    rw [List.length_map, hw]
    exact q0 H' sm
end
end HL

set_option pp.maxSteps 3000
namespace HL
open PySem PySem.Spec PyProof.Rows L2
open C8 (pss_cut)
open LamX (CodeO Tabs TabS TabB ExtN tLam LamS lamS_by lamCx lamEnv codeO_ne)
abbrev sLotInit : Stmt := inClass (topS 2) 0
/-- what is known of a refusal's class whose __init__ stores a word and a field -/
structure Cls2 (K : PySem.W.Frag) (C : Addr) (f : Str) : Prop where
  ox : OexC K C
  noW : PySem.W.findIn K (.ref C) "word" = some none
  noF : PySem.W.findIn K (.ref C) f = some none
abbrev exF (f wd : Str) (v : V) : List (Str × V) := [(f, v), ("word", .str wd)]
def spInit2 (C : Addr) (f wd : Str) : Sp := fun vs H Q _ => ∃ (a : Addr) (v : V), vs = [.ref a, v] ∧ H a = some (exo a C none) ∧
  ∀ dx, H dx = none → dx ≠ a → Q .non (upd (upd (upd H dx (exd dx [("word", .str wd)])) a (exo a C (some dx))) dx (exd dx (exF f wd v)))
theorem scLI : FnScope ["self", "kind"] ["self", "kind"] (defScope sLotInit) := ⟨rfl, rfl, rfl, by decide +kernel, rfl, by decide +kernel, by decide +kernel⟩
section
variable {P : Program} {w : World} {K : PySem.W.Frag} {mg : Str → Option Value} {base : Heap}
theorem ok_badInit {f : Addr} {fd : FuncData} {k : Nat} {C : Addr} (F : Fun K "__init__" "BadLot.__init__" sLotInit f fd) (T : Cls2 K C "kind") : FnOk P w K mg base CX0 (k + 1) f fd ["self", "kind"] (spInit2 C "kind" "bad lot") := by
  refine F.ok scLI (fun vs H Q E h => ?_) (fun cdv A outer s H vs Q E hr h => ?_)
  · obtain ⟨a, v, rfl, _⟩ := h
    rfl
  · obtain ⟨a, v, rfl, ha, q⟩ := h
    refine ⟨_, pss_cons (ps_ost (pv 0) pe_str) (pss_one (ps_ost (pv 0) (pv 1))), ?_⟩
    refine ⟨.ref a, rfl, a, C, rfl, T.ox, T.noW, .inl ⟨ha, fun dx nd ne => ?_⟩⟩
    refine ⟨v, rfl, .ref a, rfl, a, C, rfl, T.ox, T.noF, .inr ⟨dx, _, upd_same, ?_, (by show 1 ≤ 900; decide), q dx nd ne⟩⟩
    rw [upd_ne ne, upd_same]
/-- the heap behind a refusal that was made -/
theorem xd_same {H : Hp} {a dx : Addr} {o1 o2 o3 o4 o5 : HO} (na : H a = none) (nd : H dx = none) : Same H (upd (del (upd (upd (upd (upd H a o1) dx o2) a o3) dx o4) a) dx o5) := fun b o e => by
  have n1 := ne_of_none e na
  have n2 := ne_of_none e nd
  rw [upd_ne n2, del_ne n1, upd_ne n2, upd_ne n1, upd_ne n2, upd_ne n1]
  exact e
/-- refused with the class at C, field f holding v -/
def Refd (C : Addr) (f wd : Str) (v : V) (H : Hp) (E : XK) : Prop := ∀ H' d, Same H H' → H d = none → H' d = some (.xd (exF f wd v)) → E (.ref C) (some d) H'
theorem Refd.same {C : Addr} {f wd : Str} {v : V} {H H1 : Hp} {E : XK} (h : Refd C f wd v H E) (s : Same H H1) : Refd C f wd v H1 E := fun H' d s' n e => h H' d (s.trans s') (s.free n) e
/-- raise C(v): its reading from what is wanted -/
theorem mk_refd {C : Addr} {f wd : Str} {v : V} {H : Hp} {E : XK} (h : Refd C f wd v H E) : [v].length ≤ 1000 ∧ ∀ a, H a = none → spInit2 C f wd (.ref a :: ([v] ++ [])) (upd H a (exo a C none))
    (fun u H2 => u = .non ∧ ∃ (d : Addr) (fs : List (Str × V)), H2 a = some (exo a C (some d)) ∧ H2 d = some (exd d fs) ∧ H d = none ∧ E (.ref C) (some d) (upd (del H2 a) d (.xd fs))) (fun _ _ _ => False) := by
  refine ⟨(by show 1 ≤ 1000; decide), fun a na => ⟨a, v, rfl, upd_same, fun dx nd ne => ⟨rfl, dx, exF f wd v, ?_, upd_same, ?_, ?_⟩⟩⟩
  · rw [upd_ne (Ne.symm ne), upd_same]
  · rw [upd_ne ne] at nd
    exact nd
  · rw [upd_ne ne] at nd
    exact h _ dx (xd_same na nd) nd upd_same
/-- BadLot as it stands: its class, its __init__ -/
structure BadTxt (P : Program) (w : World) (K : PySem.W.Frag) (mg : Str → Option Value) (base : Heap) (x : Str) (C : Addr) (f wd : Str) : Prop where
  c2 : Cls2 K C f
  gC : mg x = some (.ref C)
  ini : ∃ (fI : Addr) (fd : FuncData), PySem.W.findIn K (.ref C) "__init__" = some (some (.ref fI)) ∧ PySem.W.typeIn K (.ref fI) = some (.type "function") ∧
    FnOk P w K mg base CX0 1 fI fd ["self", f] (spInit2 C f wd) ∧ Binds K fd ["self", f] []
end
/-- refused with the class at C, its word wd -/
def RefW (C : Addr) (wd : Str) (H : Hp) (E : XK) : Prop := ∀ H' d fs, Same H H' → H' d = some (.xd fs) → fs.lookup (Str.ofString "word") = some (V.str wd) → E (.ref C) (some d) H'
theorem RefW.same {C : Addr} {wd : Str} {H H1 : Hp} {E : XK} (h : RefW C wd H E) (s : Same H H1) : RefW C wd H1 E := fun H' d fs s' e l => h H' d fs (s.trans s') e l
theorem RefW.refd {C : Addr} {f wd : Str} {v : V} {H : Hp} {E : XK} (h : RefW C wd H E) (hf : (("word" : Str) == f) = false) : Refd C f wd v H E := fun H' d s nd e => h H' d _ s e (by
  show List.lookup (Str.ofString "word") [(f, v), (Str.ofString "word", V.str wd)] = _
  rw [List.lookup_cons, hf]
  exact List.lookup_cons_self)
/-- f(k = v, ..) -/
theorem pe_kw0 {X : Cx} {CX : CXT} {k : Nat} {f : Addr} {fd : FuncData} {ps ks : List Str} {sp : Sp} {E : XK} {x : Str} {p pos : Pos} {kws : List Keyword} {tk : TA} {g : List Value → List Value → List Value} {gV : List V → List V → List V}
    (F : FnOk X.prog X.w X.K X.mg X.base CX k f fd ps sp) (hr : Room k X.A) (hg : Gl X x) (hm : X.mg x = some (.ref f)) (hk : PySem.W.keepIn X.K (.ref f) = true) (hb : KBn X.K fd ps 0 ks g gV) (hx : Passes CX X E) (hkw : PK X kws tk)
    (hall : (backToKw pos (keywordEach kws X.env)).all (·.1.isSome) = true := by rfl)
    (hks : (backToKw pos (keywordEach kws X.env)).filterMap (·.1) = ks := by rfl) (hdb : (x == ("__debug__" : Str)) = false := by decide)
    (hpl : ((backTo pos (starEach [] X.env)).any (·.1) || (backToKw pos (keywordEach kws X.env)).any (·.1.isNone)) = false := by rfl) : PE X (.Call (.Name x p) [] kws pos) (tCallN 0 ks.length sp gV E tNil tk) := by
  refine ⟨fun pins s σ H Q I h => wpAny_Call_Name_kw (ld_glob I hg hm ?_ hdb)⟩
  refine PySem.W.callWith_KW0 (h₀ := X.base) I.ok.mod.kin hk hall (thn (hkw.run pos pins s σ H _ I h) fun ws s2 ⟨zs, H2, I2, rz, l1, l2, q2⟩ => ⟨I2.kIn, ?_⟩) hpl
  rw [hks]
  exact run_fnN (us := []) (vs := []) F hr hb hx I2 .nil rz rfl l2 q2
theorem FeedAt.ext {c : Addr} {H H' : Hp} {f : Addr} (F : FeedAt c H f) (e : ExtN H H') : FeedAt c H' f := by
  obtain ⟨ns, i, b, m, n, h1, h2, h3⟩ := F
  exact ⟨ns, i, b, m, n, e _ _ h1 (fun ps z => by cases z), e _ _ h2 (fun ps z => by cases z), h3⟩
theorem IntsAt.ext {H H' : Hp} {p : Addr} {ns : List Int} (h : IntsAt H p ns) (e : ExtN H H') : IntsAt H' p ns := e _ _ h (fun ps z => by cases z)
theorem tabs_kp {T : List (Addr × Str)} {H H' : Hp} {f c : Addr} (t : Tabs T H) (F : FeedAt c H f) (k : Kp f H H') : Tabs T H' := fun p hp => by
  obtain ⟨ps, h1, h2, h3⟩ := t p hp
  obtain ⟨ns, i, b, m, n, g1, _⟩ := F
  refine ⟨ps, k _ _ (ne_of h1 g1 (fun z => by cases z)) h1, h2, fun pos cv hc => ?_⟩
  obtain ⟨c0, e1, e2⟩ := h3 pos cv hc
  refine ⟨c0, e1, k _ _ (ne_of e2 g1 (fun z => ?_)) e2⟩
  unfold CodeO at z
  cases z
theorem tabs_list {T : List (Addr × Str)} {H : Hp} {l : Addr} {xs ys : List V} (t : Tabs T H) (h : H l = some (.lst xs)) : Tabs T (upd H l (.lst ys)) := fun p hp => by
  obtain ⟨ps, h1, h2, h3⟩ := t p hp
  refine ⟨ps, by rw [upd_ne (ne_of h1 h (fun z => by cases z))]; exact h1, h2, fun pos cv hc => ?_⟩
  obtain ⟨c0, e1, e2⟩ := h3 pos cv hc
  refine ⟨c0, e1, ?_⟩
  rw [upd_ne (ne_of e2 h (fun z => ?_))]
  · exact e2
  · unfold CodeO at z
    cases z
/-- the slots of a def are as many as its names -/
theorem takes_len {X : Cx} {W : WX} (tk : Takes X W) : Takes X (fun cls d σ H => σ.length = X.N.length → W cls d σ H) := fun u s' ⟨a, B, sI, pins, σ, H, cls, d, e, I, nb, up, sky, na, os, ag, w⟩ =>
  tk u s' ⟨a, B, sI, pins, σ, H, cls, d, e, I, nb, up, sky, na, os, ag, w I.len⟩
theorem eqd_tup {H : Hp} {a b : Addr} {xs : List V} {d : Nat} (ha : H a = some (.tup xs)) (hb : H b = some (.tup xs)) (hz : xs.length ≤ 1000) (hl : ∀ x ∈ xs, leafV x = true) : Eqd H (d + 1) (.ref a) (.ref b) :=
  .inr ⟨a, b, xs, xs, rfl, rfl, .inr ⟨ha, hb⟩, rfl, hz, fun i x y h1 h2 => by
    rw [h1] at h2
    cases h2
    have e := hl x (List.mem_of_getElem? h1)
    cases d with
    | zero => exact ⟨rfl, e⟩
    | succ d => exact .inl ⟨rfl, e⟩⟩
theorem sz_2 (v w : V) : [v, w].length ≤ sizeLine := by
  show 2 ≤ sizeLine
  decide
/-! ### an ask, told by its word -/
abbrev NW : List Str := ["_law_ask", "_law_word_here", "_law_answer", "e"]
/-- a class that an ask may end with; l: whether it is of Missing's family, else of LotError's -/
structure FamW (K : PySem.W.Frag) (CE CM : Addr) (C : Addr) (l : Bool) : Prop where
  x : XfC K C
  nW : PySem.W.findIn K (.ref C) "word" = some none
  ce : PySem.W.exmOne K (.ref C) (.ref CE) = some (!l)
  cm : l = true → PySem.W.exmOne K (.ref C) (.ref CM) = some true
structure ClsW (mg : Str → Option Value) (CE CM CN : Addr) : Prop where
  gE : mg "LotError" = some (.ref CE)
  gM : mg "Missing" = some (.ref CM)
  gN : mg "NothingLeft" = some (.ref CN)
def tXfA (K : PySem.W.Frag) (a : Addr) (cls : Value) (d : Option Addr) (n : Str) (te : TE) : TE := fun σ H Q => ∃ C, XfC K C ∧ PySem.W.findIn K (.ref C) n = some none ∧ tXf a cls d C n te σ H Q
theorem pe_xfA {X : Cx} {a : Addr} {oe : Obj} {cls : Value} {d : Option Addr} {pn : List (Addr × Obj)} {e : Expr} {te : TE} {pos : Pos} {n : Str} (hz : Zc cls d oe) (hf : ∃ vs, oe.data = .fields vs) (he : PE (X.suite a ((a, oe) :: pn)) e te)
    (hb : attributeBase e n X.env (eval e X.env) = eval e X.env := by rfl) : PE (X.suite a ((a, oe) :: pn)) (.Attribute e n pos) (tXfA X.K a cls d n te) := ⟨fun pins s σ H Q I ⟨C, T, hno, h⟩ => (pe_xf T hno hz hf he hb).run pins s σ H Q I h⟩
def CatchW (K : PySem.W.Frag) (CE CM : Addr) (Q : VK) : XK := fun cls d H' => ∃ (C dd : Addr) (fs : List (Str × V)) (wd : Str) (l : Bool), FamW K CE CM C l ∧ d = some dd ∧ cls = .ref C ∧ H' dd = some (.xd fs) ∧ fs.lookup (Str.ofString "word") = some (V.str wd) ∧ ∀ t, H' t = none → Q (.ref t) (upd H' t (.tup [.non, .str wd]))
end HL

set_option pp.maxSteps 3000
namespace HL
open PySem PySem.Spec PyProof.Rows L2
open C8 (pss_cut)
theorem zipI_at {xs ys : List Int} {i : Nat} {x y : Int} (h1 : xs[i]? = some x) (h2 : ys[i]? = some y) : (xs.zip ys)[i]? = some (x, y) := by
  rw [List.getElem?_zip_eq_some]
  exact ⟨h1, h2⟩
/-! ### slices just so -/
theorem cut_to {xs : List V} {n : Nat} : cutV xs none (some (n : Int)) = xs.take n := by
  unfold cutV
  rw [HT.sIx_none, HT.sIx_nat, List.drop_zero, Nat.sub_zero]
  by_cases h : n ≤ xs.length
  · rw [Nat.min_eq_left h]
  · rw [Nat.min_eq_right (by omega), List.take_length, List.take_of_length_le (by omega)]
theorem cut_from {xs : List V} {n : Nat} : cutV xs (some (n : Int)) none = xs.drop n := by
  unfold cutV
  rw [HT.sIx_none, HT.sIx_nat]
  by_cases h : n ≤ xs.length
  · rw [Nat.min_eq_left h]
    exact List.take_of_length_le (by rw [List.length_drop]; omega)
  · rw [Nat.min_eq_right (by omega), List.drop_eq_nil_of_le (by omega), List.drop_eq_nil_of_le (by omega), List.take_nil]
theorem slice_to {K : PySem.W.Frag} {H : Hp} {a : Addr} {as : List Addr} {ll : List (List Int)} {n : Nat} {Q : VK} (ha : RowsAt H a as ll) (q : ∀ p H', Same H H' → RowsAt H' p (as.take n) (ll.take n) → Q (.ref p) H') : rSlA K (.ref a) none (some (n : Int)) H Q :=
  slice_read ha.1 fun p H' s h => q p H' s ⟨by rw [cut_to, ← List.map_take] at h; exact h, (ha.2.same s).take n⟩
theorem slice_from {K : PySem.W.Frag} {H : Hp} {a : Addr} {as : List Addr} {ll : List (List Int)} {n : Nat} {Q : VK} (ha : RowsAt H a as ll) (q : ∀ p H', Same H H' → RowsAt H' p (as.drop n) (ll.drop n) → Q (.ref p) H') : rSlA K (.ref a) (some (n : Int)) none H Q :=
  slice_read ha.1 fun p H' s h => q p H' s ⟨by rw [cut_from, ← List.map_drop] at h; exact h, (ha.2.same s).drop n⟩
def zeros (n : Nat) : List Int := List.replicate n 0
theorem rep0_read {K : PySem.W.Frag} {H : Hp} {t : Addr} {n : Nat} {Q : VK} (ht : H t = some (.tup [.int 0])) (n1 : 1 ≤ n) (n2 : n ≤ 1000) (q : ∀ p H', Same H H' → IntsAt H' p (zeros n) → Q (.ref p) H') : rRepA K (.ref t) (.int (n : Nat)) H Q := by
  refine ⟨t, (n : Nat), [.int 0], rfl, rfl, SqT.of ht, by decide, by omega, by omega, by decide, fun e => ?_, fun e p np => ?_⟩
  · have : n = 1 := by omega
    subst this
    exact q t H (Same.refl _) ht
  · refine q p _ (same_new np) ?_
    unfold IntsAt
    rw [upd_same, rep_one, Int.toNat_natCast]
    unfold zeros
    rw [List.map_replicate]
theorem zeros_len (n : Nat) : (zeros n).length = n := List.length_replicate
theorem scSm : FnScope ["_law_feed_here", "_law_how"] ["_law_feed_here"] (defScope sSmall) := ⟨rfl, rfl, rfl, by decide +kernel, rfl, by decide +kernel, by decide +kernel⟩
theorem subR_at {xs ys : List Int} {i : Nat} {k : Int} (h1 : i < xs.length) (h2 : i < ys.length) : (subR xs ys k)[i]? = some (xs.getD i 0 - k * ys.getD i 0) := by
  unfold subR
  rw [List.getElem?_map, zipI_at (List.getElem?_eq_getElem h1) (List.getElem?_eq_getElem h2), List.getD_eq_getElem?_getD, List.getElem?_eq_getElem h1, List.getD_eq_getElem?_getD, List.getElem?_eq_getElem h2]
  rfl
theorem subR_times {k : Int} : ∀ {b h : List Int}, subR b (h.map fun z => z * k) 1 = subR b h k
  | [], _ => rfl
  | _ :: _, [] => rfl
  | x :: b, y :: h => by
    rw [List.map_cons, subR_cons, subR_cons, subR_times]
    congr 1
    rw [Int.one_mul, Int.mul_comm]
/-- one turn of a comprehension over a range whose list is told by a function -/
theorem turn_fn {H H4 H5 : Hp} {D : Addr} {xs : List Int} {i : Nat} {v : Int} (nD : H D = none) (hx : xs[i]? = some v) (hz : xs.length ≤ 1000) (s4 : Same H H4) (hD : H4 D = some (.lst ((xs.take i).map V.int))) (s5 : Same H4 H5) :
    ∃ acc, H5 D = some (.lst acc) ∧ acc.length < sizeLine ∧ Same H (upd H5 D (.lst (acc ++ [.int v]))) ∧ upd H5 D (.lst (acc ++ [.int v])) D = some (.lst ((xs.take (i + 1)).map V.int)) := by
  refine ⟨_, s5 _ _ hD, ?_, same_late (s4.trans s5) nD, ?_⟩
  · rw [List.length_map]
    exact small1000 (Nat.le_trans (List.length_take_le' _ _) hz)
  · rw [upd_same, List.take_add_one, hx, List.map_append]
    rfl
theorem atIT {xs : List Int} {i : Nat} (h : i < xs.length) : atI (xs.map V.int) (i : Int) = some (.int (xs.getD i 0)) := atI_nat (by rw [List.getElem?_map, List.getD_eq_getElem?_getD, List.getElem?_eq_getElem h]; rfl)
section
variable {P : Program} {w : World} {K : PySem.W.Frag} {mg : Str → Option Value} {base : Heap}
/-! ### the law's own -/
def spSmall : Sp := fun vs H Q _ => ∃ (f c : Addr), vs = [.ref f] ∧ FeedAt c H f ∧
  ∀ H' p ll (g m : Int), Kp f H H' → FeedAt c H' f → LotAt H' p ll → 1 ≤ g → g ≤ 3 → 1 ≤ m → m ≤ 3 → GoodLot g m 4 ll → Q (.ref p) H'
theorem ok_small {f : Addr} {fd : FuncData} (F : Fun K "_law_small_lot" "_law_small_lot" sSmall f fd) (CD : Cal P w K mg base CX0 1 "_law_draw" ["_law_feed_here", "_law_many"] spDraw) (CL : Cal P w K mg base CX0 3 "_law_lot" ["_law_feed_here", "_law_goods_here", "_law_kinds", "_law_most"] spLot) : FnOk P w K mg base CX0 4 f fd ["_law_feed_here"] spSmall := by
  obtain ⟨fD, fdD, GD, gD, kD, bD⟩ := CD.ex
  obtain ⟨fL, fdL, GL, gL, kL, bL⟩ := CL.ex
  refine F.ok scSm (fun vs H Q E h => ?_) (fun cdv A outer s H vs Q E hr h => ?_)
  · obtain ⟨a, c, rfl, _⟩ := h
    rfl
  · obtain ⟨a, c, rfl, Fd, q⟩ := h
    refine ⟨_, pss_cons (ps_set (i := 1) scSm.nd rfl (.inl rfl) (pe_call GD (hr.mono (by decide)) (by rfl) gD kD bD .nil pass0 (pa_cons (pv 0) (pa_cons pe_int pa_nil))))
      (pss_cons (ps_if (pt_cmpR op_lt (pv 1) pe_int (nomark _)) (pss_one (ps_ret (pe_call GL hr (by rfl) gL kL bL .nil pass0 (pa_cons (pv 0) (pa_cons pe_int (pa_cons pe_int (pa_cons pe_int pa_nil))))))) pss_nil)
      (pss_cons (ps_if (pt_cmpR op_lt (pv 1) pe_int (nomark _)) (pss_one (ps_ret (pe_call GL hr (by rfl) gL kL bL .nil pass0 (pa_cons (pv 0) (pa_cons pe_int (pa_cons pe_int (pa_cons pe_int pa_nil))))))) pss_nil)
      (pss_one (ps_ret (pe_call GL hr (by rfl) gL kL bL .nil pass0 (pa_cons (pv 0) (pa_cons pe_int (pa_cons pe_int (pa_cons pe_int pa_nil)))))))))
      , ?_⟩
    refine ⟨.ref a, rfl, a, c, 5, rfl, by decide, by decide, Fd, fun d H1 d0 d1 k1 F1 => ?_⟩
    have weak : ∀ {g m : Int} {n : Nat} {ll : List (List Int)}, n ≤ 4 → GoodLot g m n ll → GoodLot g m 4 ll := fun hn ⟨e1, e2, e3⟩ => ⟨e1, by omega, e3⟩
    refine ⟨.int d, rfl, d, 2, rfl, rfl, _, rfl, ite2 (fun _ => ?_) (fun _ => ?_)⟩
    · exact ⟨.ref a, rfl, a, c, 1, 4, 3, rfl, F1, by decide, by decide, by decide, by decide, by decide, by decide, fun H' p ll k2 F2 _ hL gl => q H' p ll 1 3 (k1.trans k2) F2 hL (by decide) (by decide) (by decide) (by decide) (weak (by decide) gl)⟩
    refine ⟨.int d, rfl, d, 4, rfl, rfl, _, rfl, ite2 (fun _ => ?_) (fun _ => ?_)⟩
    · exact ⟨.ref a, rfl, a, c, 2, 4, 2, rfl, F1, by decide, by decide, by decide, by decide, by decide, by decide, fun H' p ll k2 F2 _ hL gl => q H' p ll 2 2 (k1.trans k2) F2 hL (by decide) (by decide) (by decide) (by decide) (weak (by decide) gl)⟩
    · exact ⟨.ref a, rfl, a, c, 3, 3, 2, rfl, F1, by decide, by decide, by decide, by decide, by decide, by decide, fun H' p ll k2 F2 _ hL gl => q H' p ll 3 2 (k1.trans k2) F2 hL (by decide) (by decide) (by decide) (by decide) (weak (by decide) gl)⟩
end
theorem seq_c {v : V} {i : Nat} {B : TS} {D : Ends} {σ : L2.St} {H : Hp} (h : B D (σ.set i (some v)) H) : tSeq (tAsg (tC v) (gName i)) B D σ H := h
theorem seq_e {te : TE} {i : Nat} {B : TS} {D : Ends} {σ : L2.St} {H : Hp} (h : te σ H fun v H1 => B D (σ.set i (some v)) H1) : tSeq (tAsg te (gName i)) B D σ H := h
theorem asg_e {te : TE} {i : Nat} {D : Ends} {σ : L2.St} {H : Hp} (h : te σ H fun v H1 => D.nx (σ.set i (some v)) H1) : tAsg te (gName i) D σ H := h
end HL

set_option pp.maxSteps 3000
namespace HL
open PySem PySem.Spec PyProof.Rows L2
open C8 (pss_cut)
open RZ (pi_zipA ItzT iZipA)
/-! ### wide numbers -/
theorem log_le {i : Int} {a : Nat} (h : -(2 : Int) ^ a ≤ i ∧ i ≤ (2 : Int) ^ a) : i.natAbs.log2 ≤ a := by
  have e : ((2 ^ a : Nat) : Int) = (2 : Int) ^ a := Int.natCast_pow 2 a
  have h1 : i.natAbs ≤ 2 ^ a := by omega
  by_cases c : i.natAbs = 0
  · rw [c]
    exact Nat.zero_le _
  · have h2 : i.natAbs < 2 ^ (a + 1) := by
      rw [Nat.pow_succ]
      have := Nat.two_pow_pos a
      omega
    have := (Nat.log2_lt c).mpr h2
    omega
theorem cmulW {i j : Int} {a b : Nat} (hi : -(2 : Int) ^ a ≤ i ∧ i ≤ (2 : Int) ^ a) (hj : -(2 : Int) ^ b ≤ j ∧ j ≤ (2 : Int) ^ b) (h : a + b < 1000000) : CMulW i j := by
  have := log_le hi
  have := log_le hj
  show i.natAbs.log2 + j.natAbs.log2 < 1000000
  omega
/-- // by a number of either sign, to 9,000 figures of two -/
def CDivX (_ j : Int) : Prop := j ≠ 0 ∧ j.natAbs.log2 < 9000
theorem op_fdivX {X : Cx} : OpR X (binaryOp .FloorDiv) (rI CDivX fun i j => .int (i.fdiv j)) := opI fun _ _ _ _ _ _ _ hc q => floordiv_int hc.1 q (.inl (PyProof.noPylong_of_log2 hc.2))
theorem two_mono {a b : Nat} (h : a ≤ b) : (2 : Int) ^ a ≤ (2 : Int) ^ b := by
  have : (2 : Nat) ^ a ≤ 2 ^ b := Nat.pow_le_pow_right (by decide) h
  have e1 : ((2 ^ a : Nat) : Int) = (2 : Int) ^ a := Int.natCast_pow 2 a
  have e2 : ((2 ^ b : Nat) : Int) = (2 : Int) ^ b := Int.natCast_pow 2 b
  omega
theorem two_pos (a : Nat) : 1 ≤ (2 : Int) ^ a := two_mono (a := 0) (Nat.zero_le _)
def dotR (xs ys : List Int) : List Int := (List.range xs.length).map fun i => xs.getD i 0 * ys.getD i 0
theorem dotR_cons {x y : Int} {xs ys : List Int} : dotR (x :: xs) (y :: ys) = x * y :: dotR xs ys := by
  unfold dotR
  rw [List.length_cons, List.range_succ_eq_map, List.map_cons, List.map_map]
  rfl
theorem dotR_eq : ∀ {xs ys : List Int}, xs.length = ys.length → (dotR xs ys).sum = dotI xs ys
  | [], [], _ => rfl
  | x :: xs, y :: ys, h => by rw [dotR_cons, dotI_cons, List.sum_cons, dotR_eq (by simpa using h)]
  | [], _ :: _, h => by simp at h
  | _ :: _, [], h => by simp at h
/-- numbers that may be multiplied with any others -/
def Bnd (xs : List Int) : Prop := ∀ n ∈ xs, -1000000 ≤ n ∧ n ≤ 1000000
theorem scUn : FnScope ["place", "many"] ["place", "many"] (defScope sUnit) := ⟨rfl, rfl, rfl, by decide +kernel, rfl, by decide +kernel, by decide +kernel⟩
theorem scGd : FnScope ["_law_lot_here", "_law_counts", "_law_good_here", "_law_kind"] ["_law_lot_here", "_law_counts", "_law_good_here"] (defScope sGood) := ⟨rfl, rfl, rfl, by decide +kernel, rfl, by decide +kernel, by decide +kernel⟩
theorem scGs : FnScope ["_law_lot_here", "_law_counts", "_law_good_here"] ["_law_lot_here", "_law_counts"] (defScope sLGoods) := ⟨rfl, rfl, rfl, by decide +kernel, rfl, by decide +kernel, by decide +kernel⟩
theorem scLe : FnScope ["row", "other", "times", "number", "taken"] ["row", "other", "times"] (defScope sLess) := ⟨rfl, rfl, rfl, by decide +kernel, rfl, by decide +kernel, by decide +kernel⟩
theorem getD_at {r : List Int} {g : Nat} (h : g < r.length) : r[g]? = some (r.getD g 0) := by
  rw [List.getElem?_eq_getElem h, List.getD_eq_getElem?_getD, List.getElem?_eq_getElem h]
  rfl
/-- how much of a good counts of hampers hold -/
def packI (ll : List (List Int)) (cs : List Int) (g : Nat) : Int := ((cs.zip ll).map fun q => q.1 * q.2.getD g 0).sum
def packR (ll : List (List Int)) (cs : List Int) (g : Nat) : List Int := (List.range ll.length).map fun k => (ll.getD k []).getD g 0 * cs.getD k 0
theorem packR_eq : ∀ {ll : List (List Int)} {cs : List Int} {g : Nat}, cs.length = ll.length → (packR ll cs g).sum = packI ll cs g
  | [], [], _, _ => rfl
  | r :: ll, c :: cs, g, h => by
    have e : packR (r :: ll) (c :: cs) g = r.getD g 0 * c :: packR ll cs g := by
      unfold packR
      rw [List.length_cons, List.range_succ_eq_map, List.map_cons, List.map_map]
      rfl
    have e2 : packI (r :: ll) (c :: cs) g = c * r.getD g 0 + packI ll cs g := by
      unfold packI
      rw [List.zip_cons_cons, List.map_cons, List.sum_cons]
    rw [e, e2, List.sum_cons, packR_eq (by simpa using h), Int.mul_comm]
  | [], _ :: _, _, h => by simp at h
  | _ :: _, [], _, h => by simp at h
/-- whether a row bars a bill as prices -/
def unI (g n : Nat) : List Int := (zeros g ++ [1]) ++ zeros (n - g - 1)
theorem repN_read {K : PySem.W.Frag} {H : Hp} {t : Addr} {n : Nat} {m : Int} {Q : VK} (ht : H t = some (.tup [.int 0])) (hm : m = (n : Int)) (n2 : n ≤ 1000) (q : ∀ p H', Same H H' → IntsAt H' p (zeros n) → Q (.ref p) H') : rRepN K (.ref t) (.int m) H Q := by
  subst hm
  by_cases c : n = 0
  · subst c
    exact .inl ⟨t, _, rfl, rfl, SqT.of ht, by decide, fun p np => q p _ (same_new np) upd_same⟩
  · exact .inr (rep0_read ht (by omega) n2 q)
section
variable {P : Program} {w : World} {K : PySem.W.Frag} {mg : Str → Option Value} {base : Heap}
/-- a row, as a tuple or as a list -/
def TL (H : Hp) (b : Addr) (ys : List Int) : Prop := IntsAt H b ys ∨ H b = some (.lst (ys.map V.int))
theorem TL.same {H H' : Hp} {b : Addr} {ys : List Int} (h : TL H b ys) (s : Same H H') : TL H' b ys := h.imp (fun z => z.same s) (fun z => s _ _ z)
def spLess : Sp := fun vs H Q _ => ∃ (a b : Addr) (xs ys : List Int) (k : Int) (ka kb : Nat), vs = [.ref a, .ref b, .int k] ∧ IntsAt H a xs ∧ IntsAt H b ys ∧ xs.length = ys.length ∧ xs.length ≤ 100 ∧ (-(2 : Int) ^ ka ≤ k ∧ k ≤ (2 : Int) ^ ka) ∧ Ent (2 ^ kb) ys ∧ ka + kb < 1000000 ∧ ∀ H' p, Same H H' → IntsAt H' p (subR xs ys k) → Q (.ref p) H'
theorem ok_less {f : Addr} {fd : FuncData} {k : Nat} {dvs : List V} (F : FunD K "less" "less" (defArgs sLess) (defBody sLess) (defScope sLess) dvs [] f fd) (B : Bl mg) (mz : mg "zip" = none) : FnOk P w K mg base CX0 (k + 1) f fd ["row", "other", "times"] spLess := by
  refine F.ok scLe (fun vs H Q E h => ?_) (fun cdv A outer s H vs Q E hr h => ?_)
  · obtain ⟨a, b, xs, ys, k, ka, kb, rfl, _⟩ := h
    rfl
  · obtain ⟨a, b, xs, ys, k, ka, kb, rfl, hA, hB, hl, hz, k1, k2, kk, q⟩ := h
    refine ⟨_, pss_one (ps_ret (pe_callTy call_tuple_of (by rfl) B.tuple (by decide +kernel) (pa_cons (pe_lc (own := [("number", 3), ("taken", 4)]) (g := gTup K 2 (gCons (gName 3) (gCons (gName 4) gNil))) (tt := tYes) rfl scLe.nd (pi_zipA (by rfl) mz (pa_cons (pv 0) (pa_cons (pv 1) pa_nil)))
        (blkOk_by (own := [("number", 3), ("taken", 4)]) (N := ["row", "other", "times", "number", "taken"]) (sc := defScope sLess) (by decide +kernel)) (fun _ _ _ _ _ => (pg_tup rfl (pgs_cons (pg_name (i := 3) scLe.nd rfl (Or.inl rfl)) (pgs_cons (pg_name (i := 4) scLe.nd rfl (Or.inl rfl)) pgs_nil)))) (fun _ _ _ _ _ => pts_nil)
        (fun _ _ _ _ _ => (pe_op op_sub (pv 3) (pe_op op_mulW (pv 2) (pv 4))))) pa_nil))), ?_⟩
    refine ⟨.ref a, rfl, .ref b, rfl, a, b, _, _, rfl, .inr ⟨SqT.of hA, SqT.of hB, fun D nD => ?_⟩⟩
    refine ⟨fun i m H' => i + m = xs.length ∧ Same H H' ∧ H' D = some (.lst ((((xs.zip ys).take i).map fun q => q.1 - k * q.2).map V.int)), ⟨xs.length, by omega, same_new nD, upd_same⟩, fun i m H' hW => ?_⟩
    obtain ⟨em, sm, hD⟩ := hW
    have sA : SqT K H' a (xs.map V.int) := SqT.of (hA.same sm)
    have sB : SqT K H' b (ys.map V.int) := SqT.of (hB.same sm)
    by_cases hi : i < xs.length
    · have hx : xs[i]? = some (xs[i]'hi) := List.getElem?_eq_getElem hi
      have hy : ys[i]? = some (ys[i]'(by omega)) := List.getElem?_eq_getElem (by omega)
      have g1 : (xs.map V.int)[i]? = some (.int (xs[i]'hi)) := by rw [List.getElem?_map, hx]; rfl
      have g2 : (ys.map V.int)[i]? = some (.int (ys[i]'(by omega))) := by rw [List.getElem?_map, hy]; rfl
      refine .inr ⟨⟨_, _, _, _, sA, sB, g1, g2⟩, fun H2 => Same H H2 ∧ H2 D = some (.lst ((((xs.zip ys).take (i + 1)).map fun q => q.1 - k * q.2).map V.int)), fun H2 hN => ⟨m - 1, by omega, by omega, hN⟩, fun x H2 hyy => ?_⟩
      obtain ⟨T, x1, x2, rfl, nT, rfl, f1, f2⟩ := hyy
      have ex1 := Option.some.inj ((f1 _ sA).symm.trans g1)
      have ex2 := Option.some.inj ((f2 _ sB).symm.trans g2)
      subst ex1 ex2
      have sT := same_new (o := .tup [V.int (xs[i]'hi), V.int (ys[i]'(by omega))]) nT
      refine ⟨T, _, rfl, SqT.of upd_same, rfl, _, _, rfl, _, _, rfl, rfl, rfl, yes (iteT ?_)⟩
      refine ⟨_, rfl, .int k, rfl, _, rfl, k, _, rfl, rfl, cmulW k1 (k2 _ (List.getElem_mem (show i < ys.length by omega))) kk, _, _, rfl, rfl, _, sT _ _ hD, ?_, same_late (sm.trans sT) nD, ?_⟩
      · rw [List.length_map, List.length_map]
        exact small1000 (Nat.le_trans (List.length_take_le _ _) (by omega))
      · rw [upd_same, List.take_add_one, zipI_at hx hy, List.map_append, List.map_append]
        rfl
    · refine .inl ⟨⟨_, _, sA, sB, .inl ?_⟩, ?_⟩
      · rw [List.length_map]
        omega
      · have e : (xs.zip ys).take i = xs.zip ys := List.take_of_length_le (by rw [List.length_zip]; omega)
        rw [e] at hD
        exact ⟨D, _, rfl, .inl ⟨SqL.of hD, fun t nt => q _ t (sm.trans (same_new nt)) upd_same⟩⟩
def spUnit : Sp := fun vs H Q _ => ∃ (g n : Nat), vs = [.int (g : Int), .int (n : Int)] ∧ g < n ∧ n ≤ 100 ∧ ∀ H' p, Same H H' → IntsAt H' p (unI g n) → Q (.ref p) H'
theorem ok_unit {f : Addr} {fd : FuncData} {k : Nat} (F : Fun K "unit" "unit" sUnit f fd) : FnOk P w K mg base CX0 (k + 1) f fd ["place", "many"] spUnit := by
  refine F.ok scUn (fun vs H Q E h => ?_) (fun cdv A outer s H vs Q E hr h => ?_)
  · obtain ⟨g, n, rfl, _⟩ := h
    rfl
  · obtain ⟨g, n, rfl, hg, hn, q⟩ := h
    refine ⟨_, (pss_one (ps_ret (pe_op op_catA (pe_op op_catA (pe_op op_repN (pe_tup (pa_cons pe_int pa_nil)) (pv 0)) (pe_tup (pa_cons pe_int pa_nil))) (pe_op op_repN (pe_tup (pa_cons pe_int pa_nil)) (pe_op op_sub (pe_op op_sub (pv 1) (pv 0)) pe_int))))), ?_⟩
    refine ⟨sz_1 _, fun t1 nt1 => ⟨.int (g : Int), rfl, repN_read upd_same rfl (by omega) fun z1 H1 s1 hz1 => ?_⟩⟩
    have st1 := same_new (o := .tup [.int 0]) nt1
    refine ⟨sz_1 _, fun t2 nt2 => ?_⟩
    have st2 := same_new (o := .tup [.int 1]) nt2
    refine cat_ints (ys := [1]) (hz1.same st2) (show IntsAt _ t2 [1] from upd_same) (by rw [zeros_len, List.length_singleton]; omega) fun z2 H2 s2 hz2 => ?_
    refine ⟨sz_1 _, fun t3 nt3 => ⟨.int (n : Int), rfl, .int (g : Int), rfl, _, _, rfl, rfl, _, 1, rfl, rfl, repN_read (n := n - g - 1) upd_same (by omega) (by omega) fun z3 H3 s3 hz3 => ?_⟩⟩
    have st3 := same_new (o := .tup [.int 0]) nt3
    refine cat_ints ((hz2.same st3).same s3) hz3 (by rw [List.length_append, zeros_len, zeros_len, List.length_singleton]; omega) fun z4 H4 s4 hz4 => ?_
    exact q H4 z4 (st1.trans (s1.trans (st2.trans (s2.trans (st3.trans (s3.trans s4)))))) hz4
end
def goodsI (ll : List (List Int)) (cs : List Int) : List Int := (List.range (width ll)).map fun g => packI ll cs g
section
variable {P : Program} {w : World} {K : PySem.W.Frag} {mg : Str → Option Value} {base : Heap}
def spGood : Sp := fun vs H Q _ => ∃ (p c : Addr) (as : List Addr) (ll : List (List Int)) (cs : List Int) (g : Nat), vs = [.ref p, .ref c, .int (g : Int)] ∧ RowsAt H p as ll ∧ IntsAt H c cs ∧ cs.length = ll.length ∧ ll.length ≤ 100 ∧ (∀ r ∈ ll, g < r.length ∧ Bnd r) ∧ ∀ H', Same H H' → Q (.int (packI ll cs g)) H'
theorem ok_good {f : Addr} {fd : FuncData} {k : Nat} (F : Fun K "_law_good" "_law_good" sGood f fd) (B : Bl mg) : FnOk P w K mg base CX0 (k + 1) f fd ["_law_lot_here", "_law_counts", "_law_good_here"] spGood := by
  refine F.ok scGd (fun vs H Q E h => ?_) (fun cdv A outer s H vs Q E hr h => ?_)
  · obtain ⟨p, c, as, ll, cs, g, rfl, _⟩ := h
    rfl
  · obtain ⟨p, c, as, ll, cs, g, rfl, R, hC, hcl, hz, hrow, q⟩ := h
    refine ⟨_, (pss_one (ps_ret (pe_callB (cr_sum rfl) (by rfl) B.sum (by decide +kernel) (pa_cons (pe_lc (own := [("_law_kind", 3)]) (g := gName 3) (tt := tYes) rfl scGd.nd (pi_range1 (by rfl) B.range (pa_cons (pe_callB call_len_seq (by rfl) B.len PySem.boot_len (pa_cons (pv 0) pa_nil)) pa_nil))
        (blkOk_by (own := [("_law_kind", 3)]) (N := ["_law_lot_here", "_law_counts", "_law_good_here", "_law_kind"]) (sc := defScope sGood) (by decide +kernel)) (fun _ _ _ _ _ => pg_name (i := 3) scGd.nd rfl (Or.inl rfl)) (fun _ _ _ _ _ => pts_nil)
        (fun _ _ _ _ _ => (pe_op op_mul (pe_ix (r := rIxT K) ix_tup (pe_ix (r := rIxT K) ix_tup (pv 0) (pv 3) (fun _ _ => rfl)) (pv 2) (fun _ _ => rfl)) (pe_ix (r := rIxT K) ix_tup (pv 1) (pv 3) (fun _ _ => rfl))))) pa_nil)))), ?_⟩
    have hal := R.2.len
    refine ⟨.ref p, rfl, p, _, rfl, .inr (SqT.of R.1), _, rfl, by rw [List.length_map]; omega, by rw [List.length_map]; omega, fun D nD => ?_⟩
    rw [List.length_map]
    have hdl : (packR ll cs g).length = ll.length := by unfold packR; rw [List.length_map, List.length_range]
    refine lc_range (lo := 0) (n := ((as.length : Nat) : Int).toNat) (fun i H' => Same H H' ∧ H' D = some (.lst (((packR ll cs g).take i).map V.int))) ⟨same_new nD, upd_same⟩ (fun i H4 hi ⟨s4, hD⟩ => ?_) (fun H4 ⟨s4, hD⟩ => ?_)
    · have hi' : i < as.length := by omega
      have hil : i < ll.length := by omega
      have ez : (0 : Int) + (i : Nat) = ((i : Nat) : Int) := by omega
      rw [ez]
      have hai : as[i]? = some as[i] := List.getElem?_eq_getElem hi'
      obtain ⟨r, hr1, hr2⟩ := (R.same s4).2.at hai
      have hat : atI (as.map V.ref) ((i : Nat) : Int) = some (.ref as[i]) := atI_nat (by rw [List.getElem?_map, hai]; rfl)
      generalize as[i] = ai at hr2 hat
      obtain ⟨k1, k2⟩ := hrow r (List.mem_of_getElem? hr1)
      have hb := k2 (r.getD g 0) (List.mem_of_getElem? (getD_at k1))
      refine ⟨rfl, yes (iteT ?_)⟩
      refine ⟨.ref p, rfl, .int (i : Int), rfl, p, _, _, _, rfl, rfl, SqT.of (R.same s4).1, hat, .int (g : Int), rfl, ai, _, _, _, rfl, rfl, SqT.of hr2, atIT k1, .ref c, rfl, .int (i : Int), rfl, c, _, _, _, rfl, rfl, SqT.of (hC.same s4), atIT (by omega), _, _, rfl, rfl, .inl ⟨by omega, by omega⟩, ?_⟩
      refine turn_fn (xs := packR ll cs g) nD ?_ (by omega) s4 hD (Same.refl _)
      unfold packR
      rw [List.getElem?_map, List.getElem?_range hil]
      have : ll.getD i [] = r := by rw [List.getD_eq_getElem?_getD, hr1]; rfl
      show some ((ll.getD i []).getD g 0 * cs.getD i 0) = _
      rw [this]
    · rw [Int.toNat_natCast, List.take_of_length_le (by omega)] at hD
      have q1 := q H4 s4
      rw [← packR_eq hcl] at q1
      exact ⟨D, _, rfl, SqL.of hD, q1⟩
def spLGoods : Sp := fun vs H Q _ => ∃ (p c : Addr) (as : List Addr) (ll : List (List Int)) (cs : List Int), vs = [.ref p, .ref c] ∧ RowsAt H p as ll ∧ flaw ll = none ∧ IntsAt H c cs ∧ cs.length = ll.length ∧ ∀ H' t, Same H H' → IntsAt H' t (goodsI ll cs) → Q (.ref t) H'
theorem ok_lGoods {f : Addr} {fd : FuncData} (F : Fun K "_law_goods" "_law_goods" sLGoods f fd) (B : Bl mg) (CG : Cal P w K mg base CX0 1 "_law_good" ["_law_lot_here", "_law_counts", "_law_good_here"] spGood) : FnOk P w K mg base CX0 2 f fd ["_law_lot_here", "_law_counts"] spLGoods := by
  obtain ⟨fG, fdG, GG, gG, kG, bG⟩ := CG.ex
  refine F.ok scGs (fun vs H Q E h => ?_) (fun cdv A outer s H vs Q E hr h => ?_)
  · obtain ⟨p, c, as, ll, cs, rfl, _⟩ := h
    rfl
  · obtain ⟨p, c, as, ll, cs, rfl, R, ef, hC, hcl, q⟩ := h
    refine ⟨_, (pss_one (ps_ret (pe_callTy call_tuple_of (by rfl) B.tuple (by decide +kernel) (pa_cons (pe_lc (own := [("_law_good_here", 2)]) (g := gName 2) (tt := tYes) rfl scGs.nd (pi_range1 (by rfl) B.range (pa_cons (pe_callB call_len_seq (by rfl) B.len PySem.boot_len (pa_cons (pe_ix ix_tup (pv 0) pe_int (fun _ _ => rfl)) pa_nil)) pa_nil))
        (blkOk_by (own := [("_law_good_here", 2)]) (N := ["_law_lot_here", "_law_counts", "_law_good_here"]) (sc := defScope sLGoods) (by decide +kernel)) (fun _ _ _ _ _ => pg_name (i := 2) scGs.nd rfl (Or.inl rfl)) (fun _ _ _ _ _ => pts_nil)
        (fun _ _ _ _ _ => (pe_call GG hr (by rfl) gG kG bG .nil pass0 (pa_cons (pv 0) (pa_cons (pv 1) (pa_cons (pv 2) pa_nil)))))) pa_nil)))), ?_⟩
    have hok := flaw_ok ef
    have hrw := flaw_rows ef
    obtain ⟨a0, ha0, hh0, hw⟩ := R.2.head hok.1
    have at0 : atI (as.map V.ref) 0 = some (.ref a0) := atI_nat (j := 0) (by rw [List.getElem?_map, ha0]; rfl)
    refine ⟨.ref p, rfl, p, _, 0, .ref a0, rfl, rfl, SqT.of R.1, at0, a0, _, rfl, .inr (SqT.of hh0), _, rfl, by rw [List.length_map, hw]; omega, by rw [List.length_map, hw]; omega, fun D nD => ?_⟩
    rw [List.length_map, hw]
    have hgl : (goodsI ll cs).length = width ll := by unfold goodsI; rw [List.length_map, List.length_range]
    refine lc_range (lo := 0) (n := ((width ll : Nat) : Int).toNat) (fun i H' => Same H H' ∧ H' D = some (.lst (((goodsI ll cs).take i).map V.int))) ⟨same_new nD, upd_same⟩ (fun i H4 hi ⟨s4, hD⟩ => ?_) (fun H4 ⟨s4, hD⟩ => ?_)
    · have hi' : i < width ll := by omega
      have ez : (0 : Int) + (i : Nat) = ((i : Nat) : Int) := by omega
      rw [ez]
      refine ⟨rfl, yes (iteT ?_)⟩
      refine ⟨.ref p, rfl, .ref c, rfl, .int (i : Int), rfl, p, c, as, ll, cs, i, rfl, R.same s4, hC.same s4, hcl, by omega, fun r hr => ⟨by rw [(hrw r hr).1]; exact hi', fun n hn => by have := (hrw r hr).2 n hn; omega⟩, fun H5 s5 => ?_⟩
      refine turn_fn (xs := goodsI ll cs) nD ?_ (by omega) s4 hD s5
      unfold goodsI
      rw [List.getElem?_map, List.getElem?_range hi']
      rfl
    · rw [Int.toNat_natCast, List.take_of_length_le (by omega)] at hD
      exact ⟨D, _, rfl, .inl ⟨SqL.of hD, fun z nz => q _ z (s4.trans (same_new nz)) upd_same⟩⟩
end
end HL

set_option pp.maxSteps 3000
namespace HL
open PySem PySem.Spec PyProof.Rows L2
open C8 (pss_cut)
open LamX (CodeO Tabs TabS TabB ExtN tLam LamS lamS_by lamCx lamEnv codeO_ne)
/-! ### what is new; all but tables stays -/
def New (H : Hp) (a : Addr) : Prop := ∀ o, H a = some o → ∃ ps, o = .tbl ps
theorem New.of {H : Hp} {a : Addr} (h : H a = none) : New H a := fun o e => by rw [h] at e; cases e
theorem New.ne {H : Hp} {a b : Addr} {o : HO} (h : New H a) (hb : H b = some o) (n : ∀ ps, o ≠ .tbl ps) : b ≠ a := fun e => by
  rw [e] at hb
  obtain ⟨ps, z⟩ := h _ hb
  exact n ps z
theorem New.back {H H1 : Hp} {a : Addr} (h : New H1 a) (e : ExtN H H1) : New H a := fun o ho => by
  by_cases c : ∃ ps, o = .tbl ps
  · exact c
  · exact h o (e _ _ ho fun ps z => c ⟨ps, z⟩)
theorem ExtN.late {H H' : Hp} {D : Addr} {o : HO} (e : ExtN H H') (n : New H D) : ExtN H (upd H' D o) := fun b x h nt => by
  rw [upd_ne (n.ne h nt)]
  exact e b x h nt
theorem ExtN.of_same {H H' : Hp} (s : Same H H') : ExtN H H' := fun b o h _ => s b o h
theorem RowsAt.ext {H H' : Hp} {p : Addr} {as : List Addr} {ll : List (List Int)} (h : RowsAt H p as ll) (e : ExtN H H') : RowsAt H' p as ll :=
  ⟨e _ _ h.1 (fun ps z => by cases z), h.2.mono fun a xs q => e _ _ q (fun ps z => by cases z)⟩
theorem Rows.ext {H H' : Hp} {as : List Addr} {ll : List (List Int)} (h : Rows H as ll) (e : ExtN H H') : Rows H' as ll := h.mono fun a xs q => e _ _ q (fun ps z => by cases z)
theorem Rows.lput {H : Hp} {D : Addr} {xs ys : List V} {bs : List Addr} {ll : List (List Int)} (R : Rows H bs ll) (hD : H D = some (.lst xs)) : Rows (upd H D (.lst ys)) bs ll := R.mono fun b zs e => by
  rw [upd_ne (ne_of e hD (fun z => by cases z))]
  exact e
theorem IntsAt.lput {H : Hp} {a D : Addr} {ns : List Int} {xs ys : List V} (x : IntsAt H a ns) (hD : H D = some (.lst xs)) : IntsAt (upd H D (.lst ys)) a ns := by
  show upd H D _ a = _
  rw [upd_ne (ne_of x hD (fun z => by cases z))]
  exact x
/-- rows as they are told at their addresses -/
theorem rows_map {H : Hp} : ∀ {as : List Addr} {ll : List (List Int)}, Rows H as ll → as.map (rowF H) = ll
  | [], [], _ => rfl
  | a :: as, r :: ll, ⟨h1, h2⟩ => by rw [List.map_cons, rowF_at h1, rows_map h2]
  | [], _ :: _, h => h.elim
  | _ :: _, [], h => h.elim
theorem map_rows {H H' : Hp} : ∀ {as : List Addr}, (∀ a ∈ as, H' a = some (.tup ((rowF H a).map V.int))) → Rows H' as (as.map (rowF H))
  | [], _ => True.intro
  | a :: as, h => ⟨h a List.mem_cons_self, map_rows fun b hb => h b (List.mem_cons_of_mem _ hb)⟩
theorem rows_each {H : Hp} {as : List Addr} {ll : List (List Int)} (R : Rows H as ll) : ∀ a ∈ as, rowF H a ∈ ll ∧ H a = some (.tup ((rowF H a).map V.int)) := fun a ha => by
  obtain ⟨i, hi⟩ := List.mem_iff_getElem?.mp ha
  obtain ⟨r, h1, h2⟩ := R.at hi
  rw [rowF_at h2]
  exact ⟨List.mem_of_getElem? h1, h2⟩
/-- how much is still to be brought down -/
def muL (p : Nat) (H : Hp) (la : Addr) : Nat := match H la with
  | some (.lst vs) => (vs.map fun v => match v with
    | .ref a => (pz p (rowF H a)).natAbs
    | _ => 0).sum
  | _ => 0
theorem muL_eq {p : Nat} {H : Hp} {la : Addr} {aa : List Addr} {at_ : List (List Int)} (h : H la = some (.lst (aa.map V.ref))) (R : Rows H aa at_) : muL p H la = msr p at_ := by
  unfold muL msr
  rw [h, ← rows_map R, List.map_map]
  show ((aa.map V.ref).map _).sum = _
  rw [List.map_map]
  rfl
abbrev NOA : List Str := ["rows", "place", "others", "at_it", "least", "left", "row"]
theorem scOA : FnScope NOA ["rows", "place"] (defScope sOneAt) := ⟨rfl, rfl, rfl, by decide +kernel, rfl, by decide +kernel, by decide +kernel⟩
abbrev qW : Str := ((Str.ofString "with_one_at" : Str) ++ (Str.ofString ".<locals>." : Str)) ++ (Str.ofString "<lambda>" : Str)
theorem big_bits {M : Int} {x : Int} (hM : big M ≤ 2 ^ 8000) (h : -(big M) ≤ x ∧ x ≤ big M) : -(2 : Int) ^ 8000 ≤ x ∧ x ≤ (2 : Int) ^ 8000 := by
  generalize (2 : Int) ^ 8000 = z at *
  omega
theorem two_next : (2 : Int) ^ 8000 + 1 ≤ 2 ^ 8001 := by
  have e : (2 : Int) ^ 8001 = 2 ^ 8000 * 2 := Int.pow_succ 2 8000
  have := two_pos 8000
  omega
section
variable {P : Program} {w : World} {K : PySem.W.Frag} {mg : Str → Option Value} {base : Heap}
def spOneAt (T : List (Addr × Str)) : Sp := fun vs H Q _ => ∃ (l : Addr) (p n : Nat) (as : List Addr) (rows : List (List Int)) (M : Int), vs = [.ref l, .int (p : Int)] ∧ H l = some (.lst (as.map V.ref)) ∧ Rows H as rows ∧ rows.length ≤ 100 ∧ Len n rows ∧ p < n ∧ n ≤ 100 ∧ 1 ≤ M ∧ (∀ r ∈ rows, Ent M r) ∧ (2 ≤ rows.length → big M ≤ 2 ^ 8000) ∧ Tabs T H ∧
  ∀ (H' : Hp) (t la lo : Addr) (aa ao : List Addr) (at_ oth : List (List Int)), ExtN H H' → Tabs T H' → New H la → New H lo → la ≠ lo → H' t = some (.tup [.ref la, .ref lo]) → H' la = some (.lst (aa.map V.ref)) → Rows H' aa at_ → H' lo = some (.lst (ao.map V.ref)) → Rows H' ao oth → OneAt n p M rows at_ oth → Q (.ref t) H'
structure OaI (H : Hp) (T : List (Addr × Str)) (n p : Nat) (M : Int) (rows : List (List Int)) (la lo : Addr) (aa ao : List Addr) (at_ oth : List (List Int)) (H' : Hp) : Prop where
  E : ExtN H H'
  T : Tabs T H'
  na : New H la
  no : New H lo
  ne : la ≠ lo
  A : H' la = some (.lst (aa.map V.ref))
  RA : Rows H' aa at_
  O : H' lo = some (.lst (ao.map V.ref))
  RO : Rows H' ao oth
  W : WInv n p M rows at_ oth
theorem isNz_iff {p : Nat} {r : List Int} : isNz p r = true ↔ pz p r ≠ 0 := ⟨fun h => of_decide_eq_true h, fun h => decide_eq_true h⟩
theorem isZ_iff {p : Nat} {r : List Int} : (!isNz p r) = true ↔ pz p r = 0 := by
  unfold isNz
  by_cases c : pz p r = 0
  · simp [c]
  · simp [c]
theorem refAt {as : List Addr} {i : Nat} {x : V} (hx : (as.map V.ref)[i]? = some x) : ∃ c, as[i]? = some c ∧ x = V.ref c := by
  rw [List.getElem?_map] at hx
  cases e : as[i]? with
  | none => rw [e] at hx; cases hx
  | some c => rw [e] at hx; exact ⟨c, rfl, (Option.some.inj hx).symm⟩
def CalLess (P : Program) (w : World) (K : PySem.W.Frag) (mg : Str → Option Value) (base : Heap) : Prop := ∃ (f : Addr) (fd : FuncData), FnOk P w K mg base CX0 1 f fd ["row", "other", "times"] spLess ∧ mg "less" = some (.ref f) ∧ PySem.W.keepIn K (.ref f) = true ∧ L2.Binds K fd ["row", "other", "times"] []
theorem ok_oneAt {f c Pw : Addr} {oc : Value} {od : Option Addr} {kV doc pm : Value} {an : Option Addr} {ct : Value} {osl : Array (Option Value)} {T : List (Addr × Str)} (hTm : (Pw, qW) ∈ T) (hTu : ∀ p ∈ T, p.1 = Pw → p.2 = qW)
    (lk : K.lookup f = some ⟨oc, od, .func (PySem.W.fnOf "with_one_at" "with_one_at" (defArgs sOneAt) (defBody sOneAt) (defScope sOneAt) .none kV doc pm an (.ref c) ct), osl⟩) (hcd : PySem.W.codeIn K (.ref c) "with_one_at" = true) (TB : TabB base mg c Pw)
    (B : Bl mg) (mSo : mg "sorted" = none) (mAb : mg "abs" = none) (CLe : CalLess P w K mg base) :
    FnOk P w K mg base CX0 5 f (PySem.W.fnOf "with_one_at" "with_one_at" (defArgs sOneAt) (defBody sOneAt) (defScope sOneAt) .none kV doc pm an (.ref c) ct) ["rows", "place"] (spOneAt T) := by
  obtain ⟨fLe, fdLe, GLe, gLe, kLe, bLe⟩ := CLe
  refine fn_of lk hcd scOA (fun vs H Q E h => ?_) fun A outer s H vs Q E hr h => ?_
  · obtain ⟨l, p, n, as, rows, M, rfl, _⟩ := h
    rfl
  · obtain ⟨l, p, n, as, rows, M, rfl, hl, hR, hz, hL, hp, hn, hM, hE, hB, hT, q⟩ := h
    have hal := hR.len
    have hpr : ∀ r ∈ rows, p < r.length := fun r hr => by rw [hL r hr]; exact hp
    have build : ∃ t, PSs (cxOf CX0 P w K mg base NOA "with_one_at" (defScope sOneAt) f (.ref c) A outer s H E).nox (defBody sOneAt) t ∧ t { nx := fun _ H' => Q .non H', rt := Q } (L2.start NOA [.ref l, .int (p : Int)]) H := by
      refine ⟨_, (pss_cut (ps_setLc (i := 2) (own := [("row", 6)]) (g := gName 6) (tt := tTest (tOp rEq (tOp (rIxT K) (tVar 6) (tVar 1)) (tC (.int 0)))) (te := tVar 6) rfl scOA.nd rfl rfl (sw_true rfl rfl rfl (by decide +kernel)) (pi_list (pv 0))
        (blkOk_by (own := [("row", 6)]) (N := NOA) (sc := defScope sOneAt) (by decide +kernel)) (fun _ _ _ _ _ => pg_name (i := 6) scOA.nd rfl (Or.inl rfl)) (fun _ _ _ _ _ => pts_one (pt_cmpR op_eq (pe_ix (r := rIxT K) ix_tup (pv 6) (pv 1) (fun _ _ => rfl)) pe_int (nomark _)))
        (fun _ _ _ _ _ => pv 6))
      (pss_cut (ps_setLc (i := 3) (own := [("row", 6)]) (g := gName 6) (tt := tTest (tOp rNe (tOp (rIxT K) (tVar 6) (tVar 1)) (tC (.int 0)))) (te := tVar 6) rfl scOA.nd rfl rfl (sw_true rfl rfl rfl (by decide +kernel)) (pi_list (pv 0))
        (blkOk_by (own := [("row", 6)]) (N := NOA) (sc := defScope sOneAt) (by decide +kernel)) (fun _ _ _ _ _ => pg_name (i := 6) scOA.nd rfl (Or.inl rfl)) (fun _ _ _ _ _ => pts_one (pt_cmpR op_ne (pe_ix (r := rIxT K) ix_tup (pv 6) (pv 1) (fun _ _ => rfl)) pe_int (nomark _)))
        (fun _ _ _ _ _ => pv 6))
      (pss_cons (ps_while PassesOwn.never (pt_cmpR op_gt (pe_callB call_len_seq (by rfl) B.len PySem.boot_len (pa_cons (pv 3) pa_nil)) pe_int (nomark _))
      (pss_cut (ps_set (i := 3) scOA.nd rfl (.inl rfl) (pe_sortKey (T := T) (i := 1) (r := "row") (pl := "place") (by rfl) mSo mAb (pv 3) TB rfl hTm hTu (lamK_by (sd := defScope sOneAt) (by decide +kernel)) rfl rfl (hr.mono (by decide)) (fun _ _ _ _ _ _ => rfl)))
      (pss_cut (ps_set (i := 4) scOA.nd rfl (.inr rfl) (pe_ix ix_list (pv 3) pe_int (fun _ _ => rfl)))
      (pss_cut (ps_setLc (i := 5) (own := [("row", 6)]) (g := gName 6) (tt := tYes) (te := tCall spLess [] E0 (tCons (tVar 6) (tCons (tVar 4) (tCons (tOp (rI CDivX fun i j => .int (i.fdiv j)) (tOp (rIxT K) (tVar 6) (tVar 1)) (tOp (rIxT K) (tVar 4) (tVar 1))) tNil)))) rfl scOA.nd rfl rfl (sw_true rfl rfl rfl (by decide +kernel)) (pi_list (pe_slice sl_list (pv 3) (po_some pe_int) po_none))
        (blkOk_by (own := [("row", 6)]) (N := NOA) (sc := defScope sOneAt) (by decide +kernel)) (fun _ _ _ _ _ => pg_name (i := 6) scOA.nd rfl (Or.inl rfl)) (fun _ _ _ _ _ => pts_nil)
        (fun _ _ _ _ _ => pe_call GLe (hr.mono (by decide)) (by rfl) gLe kLe bLe .nil pass0 (pa_cons (pv 6) (pa_cons (pv 4) (pa_cons (pe_op op_fdivX (pe_ix (r := rIxT K) ix_tup (pv 6) (pv 1) (fun _ _ => rfl)) (pe_ix (r := rIxT K) ix_tup (pv 4) (pv 1) (fun _ _ => rfl))) pa_nil)))))
      (pss_cut (ps_aug (i := 2) scOA.nd rfl (.inl rfl) (pe_lc (own := [("row", 6)]) (g := gName 6) (tt := tTest (tOp rEq (tOp (rIxT K) (tVar 6) (tVar 1)) (tC (.int 0)))) (te := tVar 6) rfl scOA.nd  (pi_list (pv 5))
        (blkOk_by (own := [("row", 6)]) (N := NOA) (sc := defScope sOneAt) (by decide +kernel)) (fun _ _ _ _ _ => pg_name (i := 6) scOA.nd rfl (Or.inl rfl)) (fun _ _ _ _ _ => pts_one (pt_cmpR op_eq (pe_ix (r := rIxT K) ix_tup (pv 6) (pv 1) (fun _ _ => rfl)) pe_int (nomark _)))
        (fun _ _ _ _ _ => pv 6)) iop_ext)
      (pss_one (ps_set (i := 3) scOA.nd rfl (.inl rfl) (pe_op op_cat (pe_lst (pa_cons (pv 4) pa_nil)) (pe_lc (own := [("row", 6)]) (g := gName 6) (tt := tTest (tOp rNe (tOp (rIxT K) (tVar 6) (tVar 1)) (tC (.int 0)))) (te := tVar 6) rfl scOA.nd  (pi_list (pv 5))
        (blkOk_by (own := [("row", 6)]) (N := NOA) (sc := defScope sOneAt) (by decide +kernel)) (fun _ _ _ _ _ => pg_name (i := 6) scOA.nd rfl (Or.inl rfl)) (fun _ _ _ _ _ => pts_one (pt_cmpR op_ne (pe_ix (r := rIxT K) ix_tup (pv 6) (pv 1) (fun _ _ => rfl)) pe_int (nomark _)))
        (fun _ _ _ _ _ => pv 6))))))))))
      (pss_one (ps_ret (pe_tup (pa_cons (pv 3) (pa_cons (pv 2) pa_nil)))))))), ?_⟩
      -- others
      refine ⟨fun σ' H' => ∃ (lo : Addr) (ao : List Addr), σ' = [some (.ref l), some (.int (p : Int)), some (.ref lo), none, none, none, none] ∧ H lo = none ∧ Same H H' ∧ H' lo = some (.lst (ao.map V.ref)) ∧ Rows H' ao (rows.filter fun r => !isNz p r), ?_, ?_⟩
      · refine ⟨.ref l, rfl, l, rfl, ⟨_, SqL.of hl⟩, fun D nD => ?_⟩
        refine lc_list (K := K) (a := l) (xs := as.map V.ref) (fun i H' => Same H H' ∧ ∃ ca : List Addr, H' D = some (.lst (ca.map V.ref)) ∧ Rows H' ca ((rows.take i).filter (fun r => !isNz p r))) ⟨same_new nD, [], upd_same, by rw [List.take_zero]; exact True.intro⟩ (fun i H' _ hP => SqL.of (hP.1 _ _ hl)) (fun i x H' hx ⟨sj, ca, hD, hRc⟩ => ?_) (fun H' ⟨sj, ca, hD, hRc⟩ => ?_)
        · obtain ⟨a, ha, rfl⟩ := refAt hx
          obtain ⟨r, hr1, hr2⟩ := (hR.same sj).at ha
          have hr2 : IntsAt H' a r := hr2
          have hpl := hpr r (List.mem_of_getElem? hr1)
          have etk : (rows.take (i + 1)).filter (fun r => !isNz p r) = (rows.take i).filter (fun r => !isNz p r) ++ (if (fun r => !isNz p r) r = true then [r] else []) := by
            rw [List.take_add_one, hr1, List.filter_append]
            congr 1
            show List.filter _ [r] = _
            rw [List.filter_cons, List.filter_nil]
          rw [etk]
          refine ⟨rfl, .ref a, rfl, .int (p : Int), rfl, a, _, _, _, rfl, rfl, SqT.of hr2, atIT hpl, rfl, _, rfl, ite2 (fun c1 => ?_) (fun c1 => ?_)⟩
          · have hz0 : (fun r => !isNz p r) r = true := (isZ_iff).mpr (V.int.inj (of_decide_eq_true c1))
            rw [if_pos hz0]
            refine ⟨.ref a, rfl, _, hD, ?_, same_late sj nD, ca ++ [a], ?_, ?_⟩
            · rw [List.length_map, hRc.len]
              exact small1000 (Nat.le_trans (List.length_filter_le _ _) (Nat.le_trans (List.length_take_le' _ _) (by first | omega | (rw [List.length_map]; omega))))
            · rw [upd_same, List.map_append]
              rfl
            · exact (hRc.lput hD).app ⟨hr2.lput hD, True.intro⟩
          · have hz0 : ¬ (fun r => !isNz p r) r = true := fun z => c1 (decide_eq_true (congrArg V.int (isZ_iff.mp z)))
            rw [if_neg hz0, List.append_nil]
            exact ⟨sj, ca, hD, hRc⟩
        · rw [List.length_map, hal, List.take_length] at hRc
          exact ⟨D, ca, rfl, nD, sj, hD, hRc⟩
      rintro σ' H1 ⟨lo, ao, rfl, nlo, s1, hlo, hRo⟩
      -- at it
      refine ⟨fun σ' H' => ∃ (la : Addr) (aa : List Addr), σ' = [some (.ref l), some (.int (p : Int)), some (.ref lo), some (.ref la), none, none, none] ∧ OaI H T n p M rows la lo aa ao (rows.filter (isNz p)) (rows.filter fun r => !isNz p r) H', ?_, ?_⟩
      · refine ⟨.ref l, rfl, l, rfl, ⟨_, SqL.of (s1 _ _ hl)⟩, fun D nD => ?_⟩
        refine lc_list (K := K) (a := l) (xs := as.map V.ref) (fun i H' => Same H1 H' ∧ ∃ ca : List Addr, H' D = some (.lst (ca.map V.ref)) ∧ Rows H' ca ((rows.take i).filter (isNz p))) ⟨same_new nD, [], upd_same, by rw [List.take_zero]; exact True.intro⟩ (fun i H' _ hP => SqL.of (hP.1 _ _ (s1 _ _ hl))) (fun i x H' hx ⟨sj, ca, hD, hRc⟩ => ?_) (fun H' ⟨sj, ca, hD, hRc⟩ => ?_)
        · obtain ⟨a, ha, rfl⟩ := refAt hx
          obtain ⟨r, hr1, hr2⟩ := ((hR.same s1).same sj).at ha
          have hr2 : IntsAt H' a r := hr2
          have hpl := hpr r (List.mem_of_getElem? hr1)
          have etk : (rows.take (i + 1)).filter (isNz p) = (rows.take i).filter (isNz p) ++ (if (isNz p) r = true then [r] else []) := by
            rw [List.take_add_one, hr1, List.filter_append]
            congr 1
            show List.filter _ [r] = _
            rw [List.filter_cons, List.filter_nil]
          rw [etk]
          refine ⟨rfl, .ref a, rfl, .int (p : Int), rfl, a, _, _, _, rfl, rfl, SqT.of hr2, atIT hpl, rfl, _, rfl, ite2 (fun c1 => ?_) (fun c1 => ?_)⟩
          · have hz0 : (isNz p) r = true := isNz_iff.mpr fun z => (by rw [show r.getD p 0 = 0 from z, decide_eq_true rfl] at c1; cases c1)
            rw [if_pos hz0]
            refine ⟨.ref a, rfl, _, hD, ?_, same_late sj nD, ca ++ [a], ?_, ?_⟩
            · rw [List.length_map, hRc.len]
              exact small1000 (Nat.le_trans (List.length_filter_le _ _) (Nat.le_trans (List.length_take_le' _ _) (by first | omega | (rw [List.length_map]; omega))))
            · rw [upd_same, List.map_append]
              rfl
            · exact (hRc.lput hD).app ⟨hr2.lput hD, True.intro⟩
          · have hz0 : ¬ (isNz p) r = true := fun z => c1 (by rw [decide_eq_false (fun w => isNz_iff.mp z (V.int.inj w))]; rfl)
            rw [if_neg hz0, List.append_nil]
            exact ⟨sj, ca, hD, hRc⟩
        · rw [List.length_map, hal, List.take_length] at hRc
          exact ⟨D, ca, rfl, ExtN.of_same (s1.trans sj), hT.ext (s1.trans sj), New.of (s1.free nD), New.of nlo, (fun z => by rw [z, hlo] at nD; cases nD), hD, hRc, sj _ _ hlo, hRo.same sj, WInv.start hL hE⟩
      rintro σ' H2 ⟨la, aa, rfl, X2⟩
      refine while_by (fun σ H' => ∃ (la lo : Addr) (aa ao : List Addr) (at_ oth : List (List Int)) (y4 y5 : Option V), σ = [some (.ref l), some (.int (p : Int)), some (.ref lo), some (.ref la), y4, y5, none] ∧ OaI H T n p M rows la lo aa ao at_ oth H')
        (fun σ H' => match σ with | [_, _, _, some (.ref la), _, _, _] => muL p H' la | _ => 0) ⟨la, lo, aa, ao, _, _, none, none, rfl, X2⟩ ?_ ?_
      · clear X2 hRo hlo
        rintro σ H3 ⟨la, lo, aa, ao, at_, oth, y4, y5, rfl, X⟩
        have haal := X.RA.len
        have hcnt := X.W.count
        refine ⟨.ref la, rfl, la, _, rfl, .inl (SqL.of X.A), _, 1, rfl, rfl, _, rfl, ?_⟩
        rw [List.length_map]
        refine ite2 (fun c1 => ?_) (fun c1 => ?_)
        · have h2 : 2 ≤ at_.length := by
            have : (1 : Int) < (aa.length : Nat) := of_decide_eq_true c1
            omega
          have hBig := hB (by omega)
          have hpa : ∀ r ∈ at_, p < r.length := fun r hr => by rw [X.W.rd.len r hr]; exact hp
          have hmu : muL p H3 la = msr p at_ := muL_eq X.A X.RA
          have heach := rows_each X.RA
          have hmap := rows_map X.RA
          -- sorted
          refine ⟨fun σ' H' => ∃ (pp b0 : Addr) (br : List Addr), σ' = [some (.ref l), some (.int (p : Int)), some (.ref lo), some (.ref pp), y4, y5, none] ∧ ExtN H H' ∧ Tabs T H' ∧ H' pp = some (.lst ((b0 :: br).map V.ref)) ∧ New H pp ∧ pp ≠ lo ∧ H' lo = some (.lst (ao.map V.ref)) ∧ Rows H' ao oth ∧ Rows H' (b0 :: br) ((b0 :: br).map (rowF H3)) ∧ ((b0 :: br).map (rowF H3)).Perm at_ ∧ ∀ r ∈ br.map (rowF H3), absI (pz p (rowF H3 b0)) ≤ absI (pz p r), ?_, ?_⟩
          · refine ⟨.ref la, rfl, la, aa, rowF H3, p, rfl, X.A, X.T, rfl, fun a ha => ⟨(heach a ha).2, hpa _ (heach a ha).1⟩, fun H4 bs pp e4 T4 prm srt np => ?_⟩
            have hbl : bs.length = aa.length := prm.length_eq
            match bs, hbl, prm, srt with
            | [], hbl, _, _ =>
              exfalso
              simp at hbl
              omega
            | b0 :: br, hbl, prm, srt =>
              have s5 := same_new (o := .lst ((b0 :: br).map V.ref)) np
              refine ⟨pp, b0, br, rfl, X.E.trans (e4.trans (ExtN.of_same s5)), T4.ext s5, upd_same, (New.of np).back (X.E.trans e4), (fun z => ?_), s5 _ _ (e4 _ _ X.O (fun ps w => by cases w)), (X.RO.ext e4).same s5, map_rows fun a ha => s5 _ _ (e4 _ _ (heach a (prm.mem_iff.mp ha)).2 (fun ps w => by cases w)), by rw [← hmap]; exact prm.map _, fun r hr => ?_⟩
              · have := e4 _ _ X.O (fun ps w => by cases w)
                rw [← z, np] at this
                cases this
              · obtain ⟨a, ha, rfl⟩ := List.mem_map.mp hr
                exact (List.pairwise_cons.mp srt).1 a ha
          rintro σ' H4 ⟨pp, b0, br, rfl, E4, T4, hpp, npp, nplo, hlo4, RO4, RB4, prm, hmin⟩
          -- the least
          refine ⟨fun σ' H' => σ' = [some (.ref l), some (.int (p : Int)), some (.ref lo), some (.ref pp), some (.ref b0), y5, none] ∧ H4 = H', ?_, ?_⟩
          · exact ⟨.ref pp, rfl, pp, _, 0, .ref b0, rfl, rfl, SqL.of hpp, atI_nat (j := 0) rfl, rfl, rfl⟩
          rintro σ' H4' ⟨rfl, rfl⟩
          generalize el0 : rowF H3 b0 = l0 at RB4 prm hmin
          have RB4' : IntsAt H4 b0 l0 ∧ Rows H4 br (br.map (rowF H3)) := by
            rw [List.map_cons, el0] at RB4
            exact RB4
          rw [List.map_cons, el0] at prm
          generalize br.map (rowF H3) = rs at RB4' prm hmin
          clear RB4
          obtain ⟨hb0, RBr⟩ := RB4'
          have ml0 : l0 ∈ at_ := prm.mem_iff.mp List.mem_cons_self
          have mrs : ∀ r ∈ rs, r ∈ at_ := fun r hr => prm.mem_iff.mp (List.mem_cons_of_mem _ hr)
          have hrl : rs.length ≤ 100 := by
            have := prm.length_eq
            rw [List.length_cons] at this
            omega
          have ell := X.W.rd.len l0 ml0
          have enl := X.W.rd.nz l0 ml0
          have eEnt := X.W.rd.ent hM
          -- what is left
          refine ⟨fun σ' H' => ∃ (lf : Addr) (cl : List Addr), σ' = [some (.ref l), some (.int (p : Int)), some (.ref lo), some (.ref pp), some (.ref b0), some (.ref lf), none] ∧ Same H4 H' ∧ H4 lf = none ∧ H' lf = some (.lst (cl.map V.ref)) ∧ Rows H' cl (rs.map (red p l0)), ?_, ?_⟩
          · refine ⟨.ref pp, rfl, 1, rfl, noPart ⟨pp, _, rfl, SqL.of hpp, fun sl nsl => ?_⟩⟩
            have ecut : cutV ((b0 :: br).map V.ref) (some 1) none = br.map V.ref := cut_from (n := 1)
            rw [ecut]
            have ssl := same_new (o := .lst (br.map V.ref)) nsl
            refine ⟨sl, rfl, ⟨_, SqL.of upd_same⟩, fun D nD => ?_⟩
            have nD4 := ssl.free nD
            refine lc_list (K := K) (a := sl) (xs := br.map V.ref) (fun i H' => Same (upd H4 sl (.lst (br.map V.ref))) H' ∧ ∃ ca : List Addr, H' D = some (.lst (ca.map V.ref)) ∧ Rows H' ca ((rs.take i).map (red p l0))) ⟨same_new nD, [], upd_same, by rw [List.take_zero]; exact True.intro⟩ (fun i H' _ hP => SqL.of (hP.1 _ _ upd_same)) (fun i x H' hx ⟨sj, ca, hD, hRc⟩ => ?_) (fun H' ⟨sj, ca, hD, hRc⟩ => ?_)
            · obtain ⟨a, ha, rfl⟩ := refAt hx
              have sj4 := ssl.trans sj
              obtain ⟨r, hr1, hr2⟩ := (RBr.same sj4).at ha
              have hr2 : IntsAt H' a r := hr2
              have mr := mrs r (List.mem_of_getElem? hr1)
              have hrp := hpa r mr
              have erl := X.W.rd.len r mr
              have vr := big_bits hBig ((eEnt r mr).at (by have := first_big hM; omega) p)
              have vl := big_bits hBig ((eEnt l0 ml0).at (by have := first_big hM; omega) p)
              have hq := quot_any enl vr.1 vr.2
              refine ⟨rfl, yes (iteT ?_)⟩
              refine ⟨.ref a, rfl, .ref b0, rfl, .ref a, rfl, .int (p : Int), rfl, a, _, _, _, rfl, rfl, SqT.of hr2, atIT hrp, .ref b0, rfl, .int (p : Int), rfl, b0, _, _, _, rfl, rfl, SqT.of (hb0.same sj4), atIT (by rw [ell]; exact hp), _, _, rfl, rfl, ⟨enl, ?_⟩, nilA ?_⟩
              · have := log_le (a := 8000) vl
                exact Nat.lt_of_le_of_lt this (by decide)
              · refine ⟨a, b0, r, l0, (pz p r).fdiv (pz p l0), 8001, 8000, rfl, hr2, hb0.same sj4, by rw [erl, ell], by rw [erl]; exact hn, ?_, fun x hx => big_bits hBig (eEnt l0 ml0 x hx), by decide, fun H5 z s5 hz5 => ?_⟩
                · have := two_next
                  show -(2 : Int) ^ 8001 ≤ _ ∧ _ ≤ (2 : Int) ^ 8001
                  generalize (2 : Int) ^ 8001 = w1 at *
                  generalize (2 : Int) ^ 8000 = w2 at *
                  omega
                · have hD5 := s5 _ _ hD
                  refine ⟨_, hD5, ?_, same_late (sj.trans s5) nD, ca ++ [z], by rw [upd_same, List.map_append]; rfl, ?_⟩
                  · have h1 := hRc.len
                    rw [List.length_map, List.length_take] at h1
                    rw [List.length_map]
                    exact small1000 (by omega)
                  · rw [List.take_add_one, hr1, List.map_append]
                    exact ((hRc.same s5).lput hD5).app ⟨hz5.lput hD5, True.intro⟩
            · rw [List.length_map, RBr.len, List.take_length] at hRc
              exact ⟨D, ca, rfl, ssl.trans sj, nD4, hD, hRc⟩
          rintro σ' H5 ⟨lf, cl, rfl, s5, nlf, hlf, RL⟩
          have hcl := RL.len
          rw [List.length_map] at hcl
          have hpl' : ∀ r ∈ rs.map (red p l0), p < r.length := fun r hr => by
            obtain ⟨r', hr', rfl⟩ := List.mem_map.mp hr
            rw [red_len ell (X.W.rd.len r' (mrs r' hr'))]
            exact hp
          have E5 : ExtN H H5 := E4.trans (ExtN.of_same s5)
          have hlo5 := s5 _ _ hlo4
          have hoth : oth.length ≤ 100 := by omega
          have nlo5 : lf ≠ lo := fun z => by rw [z, hlo4] at nlf; cases nlf
          -- others
          refine ⟨fun σ' H' => ∃ (aq : List Addr), σ' = [some (.ref l), some (.int (p : Int)), some (.ref lo), some (.ref pp), some (.ref b0), some (.ref lf), none] ∧ ExtN H H' ∧ Tabs T H' ∧ H' lf = some (.lst (cl.map V.ref)) ∧ Rows H' cl (rs.map (red p l0)) ∧ IntsAt H' b0 l0 ∧ H' lo = some (.lst (aq.map V.ref)) ∧ Rows H' aq (oth ++ (rs.map (red p l0)).filter fun r => !isNz p r), ?_, ?_⟩
          · refine ⟨.ref lo, rfl, .ref lf, rfl, lf, rfl, ⟨_, SqL.of hlf⟩, fun D nD => ?_⟩
            refine lc_list (K := K) (a := lf) (xs := cl.map V.ref) (fun i H' => Same H5 H' ∧ ∃ ca : List Addr, H' D = some (.lst (ca.map V.ref)) ∧ Rows H' ca (((rs.map (red p l0)).take i).filter (fun r => !isNz p r))) ⟨same_new nD, [], upd_same, by rw [List.take_zero]; exact True.intro⟩ (fun i H' _ hP => SqL.of (hP.1 _ _ hlf)) (fun i x H' hx ⟨sj, ca, hD, hRc⟩ => ?_) (fun H' ⟨sj, ca, hD, hRc⟩ => ?_)
            · obtain ⟨a, ha, rfl⟩ := refAt hx
              obtain ⟨r, hr1, hr2⟩ := (RL.same sj).at ha
              have hr2 : IntsAt H' a r := hr2
              have hpl := hpl' r (List.mem_of_getElem? hr1)
              have etk : ((rs.map (red p l0)).take (i + 1)).filter (fun r => !isNz p r) = ((rs.map (red p l0)).take i).filter (fun r => !isNz p r) ++ (if (fun r => !isNz p r) r = true then [r] else []) := by
                rw [List.take_add_one, hr1, List.filter_append]
                congr 1
                show List.filter _ [r] = _
                rw [List.filter_cons, List.filter_nil]
              rw [etk]
              refine ⟨rfl, .ref a, rfl, .int (p : Int), rfl, a, _, _, _, rfl, rfl, SqT.of hr2, atIT hpl, rfl, _, rfl, ite2 (fun c1 => ?_) (fun c1 => ?_)⟩
              · have hz0 : (fun r => !isNz p r) r = true := (isZ_iff).mpr (V.int.inj (of_decide_eq_true c1))
                rw [if_pos hz0]
                refine ⟨.ref a, rfl, _, hD, ?_, same_late sj nD, ca ++ [a], ?_, ?_⟩
                · rw [List.length_map, hRc.len]
                  exact small1000 (Nat.le_trans (List.length_filter_le _ _) (Nat.le_trans (List.length_take_le' _ _) (by first | omega | (rw [List.length_map]; omega))))
                · rw [upd_same, List.map_append]
                  rfl
                · exact (hRc.lput hD).app ⟨hr2.lput hD, True.intro⟩
              · have hz0 : ¬ (fun r => !isNz p r) r = true := fun z => c1 (decide_eq_true (congrArg V.int (isZ_iff.mp z)))
                rw [if_neg hz0, List.append_nil]
                exact ⟨sj, ca, hD, hRc⟩
            · rw [List.length_map, RL.len, List.take_length] at hRc
              have hlo6 := sj _ _ hlo5
              have nDl : D ≠ lo := fun z => by rw [z, hlo5] at nD; cases nD
              refine ⟨lo, D, _, _, rfl, rfl, hlo6, hD, ?_, ao ++ ca, rfl, ExtN.late (E5.trans (ExtN.of_same sj)) X.no, tabs_list ((T4.ext s5).ext sj) hlo6, by rw [upd_ne nlo5]; exact sj _ _ hlf, (RL.same sj).lput hlo6, ((hb0.same s5).same sj).lput hlo6, by rw [upd_same, List.map_append], ?_⟩
              · rw [List.length_map, List.length_map, hRc.len]
                have h1 := List.length_filter_le (fun r => !isNz p r) (rs.map (red p l0))
                have h2 := RO4.len
                rw [List.length_map] at h1
                exact sz1000 (by omega)
              · exact (((RO4.same s5).same sj).lput hlo6).app (hRc.lput hlo6)
          rintro σ' H6 ⟨aq, rfl, E6, T6, hlf6, RL6, hb6, hlo6, RQ6⟩
          refine ⟨.ref b0, rfl, sz_1 _, fun t1 nt1 => ?_⟩
          have st := same_new (o := .lst [.ref b0]) nt1
          refine ⟨.ref lf, rfl, lf, rfl, ⟨_, SqL.of (st _ _ hlf6)⟩, fun D nD => ?_⟩
          have nDt : D ≠ t1 := fun z => by rw [z, upd_same] at nD; cases nD
          refine lc_list (K := K) (a := lf) (xs := cl.map V.ref) (fun i H' => Same (upd H6 t1 (.lst [.ref b0])) H' ∧ ∃ ca : List Addr, H' D = some (.lst (ca.map V.ref)) ∧ Rows H' ca (((rs.map (red p l0)).take i).filter (isNz p))) ⟨same_new nD, [], upd_same, by rw [List.take_zero]; exact True.intro⟩ (fun i H' _ hP => SqL.of (hP.1 _ _ (st _ _ hlf6))) (fun i x H' hx ⟨sj, ca, hD, hRc⟩ => ?_) (fun H' ⟨sj, ca, hD, hRc⟩ => ?_)
          · obtain ⟨a, ha, rfl⟩ := refAt hx
            obtain ⟨r, hr1, hr2⟩ := ((RL6.same st).same sj).at ha
            have hr2 : IntsAt H' a r := hr2
            have hpl := hpl' r (List.mem_of_getElem? hr1)
            have etk : ((rs.map (red p l0)).take (i + 1)).filter (isNz p) = ((rs.map (red p l0)).take i).filter (isNz p) ++ (if (isNz p) r = true then [r] else []) := by
              rw [List.take_add_one, hr1, List.filter_append]
              congr 1
              show List.filter _ [r] = _
              rw [List.filter_cons, List.filter_nil]
            rw [etk]
            refine ⟨rfl, .ref a, rfl, .int (p : Int), rfl, a, _, _, _, rfl, rfl, SqT.of hr2, atIT hpl, rfl, _, rfl, ite2 (fun c1 => ?_) (fun c1 => ?_)⟩
            · have hz0 : (isNz p) r = true := isNz_iff.mpr fun z => (by rw [show r.getD p 0 = 0 from z, decide_eq_true rfl] at c1; cases c1)
              rw [if_pos hz0]
              refine ⟨.ref a, rfl, _, hD, ?_, same_late sj nD, ca ++ [a], ?_, ?_⟩
              · rw [List.length_map, hRc.len]
                exact small1000 (Nat.le_trans (List.length_filter_le _ _) (Nat.le_trans (List.length_take_le' _ _) (by first | omega | (rw [List.length_map]; omega))))
              · rw [upd_same, List.map_append]
                rfl
              · exact (hRc.lput hD).app ⟨hr2.lput hD, True.intro⟩
            · have hz0 : ¬ (isNz p) r = true := fun z => c1 (by rw [decide_eq_false (fun w => isNz_iff.mp z (V.int.inj w))]; rfl)
              rw [if_neg hz0, List.append_nil]
              exact ⟨sj, ca, hD, hRc⟩
          · rw [List.length_map, RL6.len, List.take_length] at hRc
            have h7 : H' t1 = some (.lst [.ref b0]) := sj _ _ upd_same
            have hcf := List.length_filter_le (isNz p) (rs.map (red p l0))
            rw [List.length_map] at hcf
            refine ⟨t1, D, _, _, rfl, rfl, h7, hD, ?_, fun z nz => ?_⟩
            · rw [List.length_map, hRc.len]
              exact sz1000 (by show 1 + _ ≤ 1000; omega)
            have s67 := st.trans sj
            have sz := same_new (o := .lst ([V.ref b0] ++ ca.map V.ref)) nz
            have Wn := X.W.step hM hL h2 prm hmin
            have Xn : OaI H T n p M rows z lo (b0 :: ca) aq (l0 :: (rs.map (red p l0)).filter (isNz p)) (oth ++ (rs.map (red p l0)).filter fun r => !isNz p r) (upd H' z (.lst ([V.ref b0] ++ ca.map V.ref))) :=
              ⟨(E6.trans (ExtN.of_same s67)).trans (ExtN.of_same sz), (T6.ext s67).ext sz, (New.of nz).back (E6.trans (ExtN.of_same s67)), X.no, fun w => (by rw [w, s67 _ _ hlo6] at nz; cases nz), upd_same, ⟨sz _ _ (hb6.same s67), hRc.same sz⟩, sz _ _ (s67 _ _ hlo6), (RQ6.same s67).same sz, Wn⟩
            refine ⟨⟨z, lo, b0 :: ca, aq, _, _, _, _, rfl, Xn⟩, ?_⟩
            show muL p _ z < muL p H3 la
            rw [muL_eq Xn.A Xn.RA, hmu]
            exact step_msr X.W.rd h2 prm hmin
        · have h1 : at_.length ≤ 1 := by
            have : ¬ ((1 : Int) < (aa.length : Nat)) := fun z => c1 (decide_eq_true z)
            omega
          refine ⟨.ref la, rfl, .ref lo, rfl, sz_2 _ _, fun t nt => ?_⟩
          have st := same_new (o := .tup [.ref la, .ref lo]) nt
          exact q _ t la lo aa ao at_ oth (X.E.trans (ExtN.of_same st)) (X.T.ext st) X.na X.no X.ne upd_same (st _ _ X.A) (X.RA.same st) (st _ _ X.O) (X.RO.same st) (X.W.done h1)
      · rintro σ H3 Q1 Q2 hQ ⟨v, hv, a, xs, e1, e2, i, j, e3, e4, b, e5, h⟩
        exact ⟨v, hv, a, xs, e1, e2, i, j, e3, e4, b, e5, hQ _ _ h⟩
    obtain ⟨t, h1, h2⟩ := build
    exact ⟨t, h1.nox, h2⟩
end
end HL

set_option pp.maxSteps 3000
namespace HL
open PySem PySem.Spec PyProof.Rows L2
open C8 (pss_cut)
open LamX (CodeO Tabs TabS TabB ExtN tLam LamS lamS_by lamCx lamEnv codeO_ne)
abbrev NSp : List Str := ["lot", "goods", "rows", "good", "swaps", "place", "at_it", "hold", "kind", "row"]
theorem scSp : FnScope ["lot", "goods", "rows", "good", "swaps", "place", "at_it", "hold", "kind", "row"] ["lot"] (defScope sSpan) := ⟨rfl, rfl, rfl, by decide +kernel, rfl, by decide +kernel, by decide +kernel⟩
theorem smallM {n : Nat} (h : n ≤ 1000000) : n < sizeLine := Nat.lt_of_le_of_lt h (by decide)
theorem ent_two {k : Nat} {M : Int} {r : List Int} (h : Ent M r) (hM : M ≤ 2 ^ k) : Ent (2 ^ k) r := h.mono hM
theorem lot_ent {ll : List (List Int)} (ef : flaw ll = none) : ∀ r ∈ ll, Ent 8 r := fun r hr x hx => by
  have := (flaw_rows ef r hr).2 x hx
  omega
theorem walk_enumT {K : PySem.W.Frag} {a : Addr} {xs : List V} : Walk (IteT K a) xs.length (fun H => SqT K H a xs) (YPair (fun i => some (.int (i : Nat))) (fun i => xs[i]?)) := by
  refine ⟨fun i _ hi q => ⟨xs, xs[i], q, by simp [hi]⟩, fun _ q => ⟨xs, q, Nat.le_refl _⟩, fun i H v H' _ q y => ?_⟩
  obtain ⟨T, x, h1, h2, h3, h4⟩ := y
  exact ⟨T, .int (i : Nat), x, h1, h2, h3, rfl, h4 xs q⟩
theorem row_more {H3 H4 H5 : Hp} {D cb : Addr} {acc : List (List Int)} {cc : List Int} (nD : H3 D = none) (s34 : Same H3 H4) (hds : ∃ ds : List Addr, H4 D = some (.lst (ds.map V.ref)) ∧ Rows H4 ds acc) (few : acc.length ≤ 1000000) (s45 : Same H4 H5) (hcb : IntsAt H5 cb cc) :
    ∃ ac, H5 D = some (.lst ac) ∧ ac.length < sizeLine ∧ Same H3 (upd H5 D (.lst (ac ++ [.ref cb]))) ∧ ∃ ds : List Addr, upd H5 D (.lst (ac ++ [.ref cb])) D = some (.lst (ds.map V.ref)) ∧ Rows (upd H5 D (.lst (ac ++ [.ref cb]))) ds (acc ++ [cc]) := by
  obtain ⟨ds, hd, hdr⟩ := hds
  have hd5 := s45 _ _ hd
  refine ⟨_, hd5, ?_, same_late (s34.trans s45) nD, ds ++ [cb], ?_, ?_⟩
  · rw [List.length_map, hdr.len]
    exact smallM few
  · rw [upd_same, List.map_append]
    rfl
  · exact ((hdr.same s45).lput hd5).app ⟨hcb.lput hd5, True.intro⟩
/-! ### slices of rows of numbers -/
theorem slice_fromI {K : PySem.W.Frag} {H : Hp} {a : Addr} {xs : List Int} {n : Nat} {Q : VK} (ha : IntsAt H a xs) (q : ∀ p H', Same H H' → IntsAt H' p (xs.drop n) → Q (.ref p) H') : rSlA K (.ref a) (some (n : Int)) none H Q :=
  slice_read ha fun p H' s h => q p H' s (by rw [cut_from, ← List.map_drop] at h; exact h)
theorem unI_len {g n : Nat} (h : g < n) : (unI g n).length = n := by
  unfold unI
  rw [List.length_append, List.length_append, zeros_len, zeros_len, List.length_singleton]
  omega
theorem unI_one {g n : Nat} : ∀ x ∈ unI g n, 0 ≤ x ∧ x ≤ 1 := fun x hx => by
  unfold unI zeros at hx
  rcases List.mem_append.mp hx with h | h
  · rcases List.mem_append.mp h with h | h
    · rw [List.eq_of_mem_replicate h]; decide
    · rw [List.mem_singleton.mp h]; decide
  · rw [List.eq_of_mem_replicate h]; decide
/-! ### spanning -/
/-- each kind's hold, and beside it which kind it is -/
def wdW (ll : List (List Int)) : List (List Int) := (List.range ll.length).map fun k => ll.getD k [] ++ unI k ll.length
theorem wdW_len {ll : List (List Int)} : (wdW ll).length = ll.length := by unfold wdW; rw [List.length_map, List.length_range]
theorem wdW_at {ll : List (List Int)} {i : Nat} {r : List Int} (h : ll[i]? = some r) : (wdW ll)[i]? = some (r ++ unI i ll.length) := by
  unfold wdW
  have hi := (List.getElem?_eq_some_iff.mp h).1
  rw [List.getElem?_map, List.getElem?_range hi]
  show some (ll.getD i [] ++ unI i ll.length) = _
  rw [List.getD_eq_getElem?_getD, h]
  rfl
theorem wdW_mem {ll : List (List Int)} {w : List Int} (h : w ∈ wdW ll) : ∃ i r, i < ll.length ∧ ll[i]? = some r ∧ w = r ++ unI i ll.length := by
  unfold wdW at h
  obtain ⟨i, hi, rfl⟩ := List.mem_map.mp h
  have hi := List.mem_range.mp hi
  exact ⟨i, ll[i], hi, List.getElem?_eq_getElem hi, by rw [List.getD_eq_getElem?_getD, List.getElem?_eq_getElem hi]; rfl⟩
theorem wdW_ok {ll : List (List Int)} (ef : flaw ll = none) : Len (width ll + ll.length) (wdW ll) ∧ ∀ r ∈ wdW ll, Ent 8 r := by
  have hrw := flaw_rows ef
  constructor
  · intro w hw
    obtain ⟨i, r, hi, hr, rfl⟩ := wdW_mem hw
    rw [List.length_append, unI_len hi, (hrw r (List.mem_of_getElem? hr)).1]
  · intro w hw x hx
    obtain ⟨i, r, hi, hr, rfl⟩ := wdW_mem hw
    rcases List.mem_append.mp hx with h | h
    · have := (hrw r (List.mem_of_getElem? hr)).2 x h
      omega
    · have := unI_one x h
      omega
/-- of the stairs those that begin behind the goods, cut to their counts -/
def dropS (g : Nat) (st : List (Nat × List Int)) : List (List Int) := (st.filter fun q => decide (g ≤ q.1)).map fun q => q.2.drop g
theorem dropS_nil {g : Nat} {st : List (Nat × List Int)} (h : ∀ q ∈ st, q.1 < g) : dropS g st = [] := by
  unfold dropS
  have : st.filter (fun q => decide (g ≤ q.1)) = [] := by
    rw [List.filter_eq_nil_iff]
    intro q hq
    have := h q hq
    simp only [decide_eq_true_eq]
    omega
  rw [this]
  rfl
theorem dropS_app {g i : Nat} {st : List (Nat × List Int)} {at_ : List (List Int)} : dropS g (st ++ at_.map fun r => (g + i, r)) = dropS g st ++ at_.map fun r => r.drop g := by
  unfold dropS
  rw [List.filter_append, List.map_append]
  congr 1
  have : (at_.map fun r => (g + i, r)).filter (fun q => decide (g ≤ q.1)) = at_.map fun r => (g + i, r) := by
    rw [List.filter_eq_self]
    intro q hq
    obtain ⟨r, _, rfl⟩ := List.mem_map.mp hq
    simp only [decide_eq_true_eq]
    omega
  rw [this, List.map_map]
  rfl
section
variable {P : Program} {w : World} {K : PySem.W.Frag} {mg : Str → Option Value} {base : Heap}
def spSpan (T : List (Addr × Str)) : Sp := fun vs H Q _ => ∃ (p : Addr) (as : List Addr) (ll : List (List Int)), vs = [.ref p] ∧ RowsAt H p as ll ∧ flaw ll = none ∧ Tabs T H ∧
  ∀ (H' : Hp) (l : Addr) (sa : List Addr) (st : List (Nat × List Int)) (rows : List (List Int)), ExtN H H' → Tabs T H' → New H l → H' l = some (.lst (sa.map V.ref)) → Rows H' sa (dropS (width ll) st) → SInv (width ll + ll.length) (width ll + ll.length) (wdW ll) st rows → Q (.ref l) H'
theorem ok_span {f : Addr} {fd : FuncData} {T : List (Addr × Str)} (F : Fun K "spanning" "spanning" sSpan f fd) (B : Bl mg) (CG : Cal P w K mg base CX0 3 "goods_of" ["lot"] spGoods0) (CU : Cal P w K mg base CX0 1 "unit" ["place", "many"] spUnit) (CO : Cal P w K mg base CX0 5 "with_one_at" ["rows", "place"] (spOneAt T)) : FnOk P w K mg base CX0 6 f fd ["lot"] (spSpan T) := by
  obtain ⟨fG, fdG, GG, gG, kG, bG⟩ := CG.ex
  obtain ⟨fU, fdU, GU, gU, kU, bU⟩ := CU.ex
  obtain ⟨fO, fdO, GO, gO, kO, bO⟩ := CO.ex
  refine F.ok scSp (fun vs H Q E h => ?_) (fun cdv A outer s H vs Q E hr h => ?_)
  · obtain ⟨p, as, ll, rfl, _⟩ := h
    rfl
  · obtain ⟨p, as, ll, rfl, R, ef, hT, q⟩ := h
    have hok := flaw_ok ef
    have hrw := flaw_rows ef
    have hal := R.2.len
    obtain ⟨wl, we⟩ := wdW_ok ef
    have wn := wdW_len (ll := ll)
    refine ⟨_, (pss_cons (ps_set (i := 1) scSp.nd rfl (.inr rfl) (pe_call GG (hr.mono (by decide)) (by rfl) gG kG bG .nil pass0 (pa_cons (pv 0) pa_nil)))
      (pss_cons (ps_setLc (i := 2) (own := [("kind", 8), ("hold", 7)]) (g := gTup K 2 (gCons (gName 8) (gCons (gName 7) gNil))) (tt := tYes) (te := tOp (rCatA K) (tVar 7) (tCall spUnit [] E0 (tCons (tVar 8) (tCons (tCB (fun xs H Q => ∃ p ys, xs = [.ref p] ∧ (SqL K H p ys ∨ SqT K H p ys) ∧ Q (.int ys.length) H) (tCons (tVar 0) tNil)) tNil)))) rfl scSp.nd rfl rfl (sw_true rfl rfl rfl (by decide +kernel)) (pi_enumT (by rfl) B.enumerate (pa_cons (pv 0) pa_nil))
        (blkOk_by (own := [("kind", 8), ("hold", 7)]) (N := NSp) (sc := defScope sSpan) (by decide +kernel)) (fun _ _ _ _ _ => (pg_tup rfl (pgs_cons (pg_name (i := 8) scSp.nd rfl (Or.inl rfl)) (pgs_cons (pg_name (i := 7) scSp.nd rfl (Or.inl rfl)) pgs_nil)))) (fun _ _ _ _ _ => pts_nil)
        (fun _ _ _ _ _ => (pe_op op_catA (pv 7) (pe_call GU (hr.mono (by decide)) (by rfl) gU kU bU .nil pass0 (pa_cons (pv 8) (pa_cons (pe_callB call_len_seq (by rfl) B.len PySem.boot_len (pa_cons (pv 0) pa_nil)) pa_nil))))))
      (pss_cons (ps_for PassesOwn.never rfl (pi_range1 (by rfl) B.range (pa_cons (pv 1) pa_nil)) (pg_name (i := 3) scSp.nd rfl (.inl rfl))
      (pss_one (ps_set (i := 2) scSp.nd rfl (.inl rfl) (pe_ix ix_tup (pe_call GO (hr.mono (by decide)) (by rfl) gO kO bO .nil pass0 (pa_cons (pv 2) (pa_cons (pv 3) pa_nil))) pe_int (fun _ _ => rfl)))))
      (pss_cons (ps_set (i := 4) scSp.nd rfl (.inl rfl) (pe_lst pa_nil))
      (pss_cons (ps_for PassesOwn.never rfl (pi_range2 (by rfl) B.range (pa_cons (pv 1) (pa_cons (pe_op op_add (pv 1) (pe_callB call_len_seq (by rfl) B.len PySem.boot_len (pa_cons (pv 0) pa_nil))) pa_nil))) (pg_name (i := 5) scSp.nd rfl (.inl rfl))
      (pss_cons (ps_asg (pe_call GO (hr.mono (by decide)) (by rfl) gO kO bO .nil pass0 (pa_cons (pv 2) (pa_cons (pv 5) pa_nil))) (pg_tup rfl (pgs_cons (pg_name (i := 6) scSp.nd rfl (.inl rfl)) (pgs_cons (pg_name (i := 2) scSp.nd rfl (.inl rfl)) pgs_nil))))
      (pss_one (ps_aug (i := 4) scSp.nd rfl (.inl rfl) (pe_lc (own := [("row", 9)]) (g := gName 9) (tt := tYes) (te := tSl (rSlA K) (tVar 9) (tPart (tVar 1)) tNoPart) rfl scSp.nd (pi_list (pv 6))
        (blkOk_by (own := [("row", 9)]) (N := NSp) (sc := defScope sSpan) (by decide +kernel)) (fun _ _ _ _ _ => pg_name (i := 9) scSp.nd rfl (Or.inl rfl)) (fun _ _ _ _ _ => pts_nil)
        (fun _ _ _ _ _ => (pe_slice sl_tupA (pv 9) (po_some (pv 1)) po_none))) iop_ext))))
      (pss_one (ps_ret (pv 4)))))))), ?_⟩
    refine ⟨.ref p, rfl, p, as, ll, rfl, R, ef, fun H1 s1 => ?_⟩
    have R1 := R.same s1
    refine ⟨.ref p, rfl, p, _, rfl, SqT.of R1.1, fun D nD => ?_⟩
    refine lc_it (walk_enumT (K := K) (a := p) (xs := as.map V.ref)) (fun i H' => Same H1 H' ∧ ∃ ca : List Addr, H' D = some (.lst (ca.map V.ref)) ∧ Rows H' ca ((wdW ll).take i)) ⟨same_new nD, [], upd_same, by rw [List.take_zero]; exact True.intro⟩ (fun i H' _ hP => SqT.of (R1.same hP.1).1) (fun i x H2 H3 hi ⟨sm, hca⟩ hY => ?_) (fun H2 ⟨sm, hca⟩ => ?_)
    · obtain ⟨T0, x1, x2, rfl, nT, rfl, e1, e2⟩ := hY
      cases Option.some.inj e1
      rw [List.length_map] at hi
      obtain ⟨ai, hai⟩ : ∃ c, as[i]? = some c := ⟨_, List.getElem?_eq_getElem hi⟩
      have ex2 : x2 = .ref ai := by
        have e2' : (as.map V.ref)[i]? = some x2 := e2
        rw [List.getElem?_map, hai] at e2'
        exact (Option.some.inj e2').symm
      subst ex2
      have sT := same_new (o := .tup [.int (i : Nat), .ref ai]) nT
      have s2 := sm.trans sT
      obtain ⟨r, hr1, hr2⟩ := (R1.same s2).2.at hai
      have hr2 : IntsAt _ ai r := hr2
      have hrl := (hrw r (List.mem_of_getElem? hr1)).1
      have hiL : i < ll.length := by omega
      refine ⟨T0, _, rfl, SqT.of upd_same, rfl, _, _, rfl, _, _, rfl, rfl, rfl, yes (iteT ?_)⟩
      refine ⟨.ref ai, rfl, .int (i : Nat), rfl, .ref p, rfl, p, _, rfl, .inr (SqT.of (R1.same s2).1), ?_⟩
      rw [List.length_map, hal]
      refine nilA ⟨i, ll.length, rfl, hiL, by omega, fun H4 z s4 hz => ?_⟩
      refine cat_ints (hr2.same s4) hz (by rw [unI_len hiL, hrl]; omega) fun z2 H5 s5 hz2 => ?_
      rw [List.take_add_one, wdW_at hr1]
      exact row_more nD sm hca (by rw [List.length_take]; omega) (sT.trans (s4.trans s5)) hz2
    rw [List.length_map, hal, List.take_of_length_le (by omega)] at hca
    obtain ⟨ra, hra, Rr⟩ := hca
    have s02 := s1.trans sm
    refine ⟨.int (width ll : Nat), rfl, _, rfl, by omega, by omega, ?_⟩
    refine for_range (lo := 0) (n := ((width ll : Nat) : Int).toNat) (fun i σ H' => ∃ (lr : Addr) (ra : List Addr) (rows : List (List Int)) (st : List (Nat × List Int)) (y3 : Option V), σ = [some (.ref p), some (.int (width ll : Nat)), some (.ref lr), y3, none, none, none, none, none, none] ∧ ExtN H H' ∧ Tabs T H' ∧ H' lr = some (.lst (ra.map V.ref)) ∧ Rows H' ra rows ∧ SInv (width ll + ll.length) i (wdW ll) st rows)
      ⟨D, ra, wdW ll, [], none, rfl, ExtN.of_same s02, hT.ext s02, hra, Rr, SInv.start wl we⟩ (fun i σ H4 hi hI => ?_) (fun σ H4 hI => ?_)
    · obtain ⟨lr, ra, rows, st, y3, rfl, E4, T4, hlr, Rr, S⟩ := hI
      have hi' : i < width ll := by omega
      have ez : (0 : Int) + (i : Nat) = ((i : Nat) : Int) := by omega
      rw [ez]
      obtain ⟨c, hc0, hc, hE⟩ := S.ent
      have few := S.few
      rw [wn] at hc0 hc few
      refine ⟨.ref lr, rfl, .int (i : Int), rfl, lr, i, width ll + ll.length, ra, rows, bnd c, rfl, hlr, Rr, by omega, S.len, by omega, by omega, bnd_pos c, fun r hr => hE r (List.mem_append_right _ hr), fun h2 => ?_, T4, fun H5 t la lo aa ao at_ oth E5 T5 na no ne ht hla Ra hlo Ro O => ?_⟩
      · have h3 : bnd (c + 1) ≤ bnd 4 := bnd_mono (by omega)
        exact Int.le_trans h3 (Int.le_trans bnd_bits (two_mono (by decide)))
      exact ⟨t, _, 1, .ref lo, rfl, rfl, SqT.of ht, rfl, lo, ao, oth, _, _, rfl, E4.trans E5, T5, hlo, Ro, S.step wl (by omega) (by rw [wn]; exact hc0) (by rw [wn]; exact hc) hE O⟩
    · obtain ⟨lr, ra, rows, st, y3, rfl, E4, T4, hlr, Rr, S⟩ := hI
      rw [Int.toNat_natCast] at S
      refine ⟨Nat.zero_le _, fun ls nls => ?_⟩
      have sl := same_new (o := .lst []) nls
      have e4l := E4.trans (ExtN.of_same sl)
      have hpR := (R.ext e4l).1
      refine ⟨.int (width ll : Nat), rfl, .int (width ll : Nat), rfl, .ref p, rfl, p, _, rfl, .inr (SqT.of hpR), ?_⟩
      rw [List.length_map, hal]
      refine ⟨_, _, rfl, rfl, _, _, rfl, ⟨by omega, by omega, by omega, by omega⟩, ?_⟩
      have en : (((width ll : Nat) : Int) + ((ll.length : Nat) : Int) - ((width ll : Nat) : Int)).toNat = ll.length := by omega
      rw [en]
      refine for_range (lo := ((width ll : Nat) : Int)) (n := ll.length) (fun i σ H' => ∃ (lr ls : Addr) (ra sa : List Addr) (rows : List (List Int)) (st : List (Nat × List Int)) (y3 y5 y6 : Option V), σ = [some (.ref p), some (.int (width ll : Nat)), some (.ref lr), y3, some (.ref ls), y5, y6, none, none, none] ∧ ExtN H H' ∧ Tabs T H' ∧ New H ls ∧ lr ≠ ls ∧ H' lr = some (.lst (ra.map V.ref)) ∧ Rows H' ra rows ∧ H' ls = some (.lst (sa.map V.ref)) ∧ Rows H' sa (dropS (width ll) st) ∧ SInv (width ll + ll.length) (width ll + i) (wdW ll) st rows)
        ⟨lr, ls, ra, [], rows, st, _, none, none, rfl, e4l, T4.ext sl, (New.of nls).back E4, (fun z => by rw [z, nls] at hlr; cases hlr), sl _ _ hlr, Rr.same sl, upd_same, by rw [dropS_nil S.piv]; exact True.intro, S⟩ (fun i σ H5 hi hI => ?_) (fun σ H5 hI => ?_)
      · obtain ⟨lr, ls, ra, sa, rows, st, y3, y5, y6, rfl, E4, T4, n4, ne4, hlr, Rr, hls, Sr, S⟩ := hI
        have ez : ((width ll : Nat) : Int) + (i : Nat) = ((width ll + i : Nat) : Int) := by omega
        rw [ez]
        obtain ⟨c, hc0, hc, hE⟩ := S.ent
        have few := S.few
        rw [wn] at hc0 hc few
        refine ⟨.ref lr, rfl, _, rfl, lr, width ll + i, width ll + ll.length, ra, rows, bnd c, rfl, hlr, Rr, by omega, S.len, by omega, by omega, bnd_pos c, fun r hr => hE r (List.mem_append_right _ hr), fun h2 => ?_, T4, fun H6 t la lo aa ao at_ oth E5 T5 na no ne ht hla Ra hlo Ro O => ?_⟩
        · have h3 : bnd (c + 1) ≤ bnd 4 := bnd_mono (by omega)
          exact Int.le_trans h3 (Int.le_trans bnd_bits (two_mono (by decide)))
        have hlsn : ∀ ps, (HO.lst (sa.map V.ref)) ≠ .tbl ps := fun ps z => by cases z
        have hls5 := E5 _ _ hls hlsn
        have hone := O.one
        have halA := Ra.len
        have hsl := Sr.len
        have hds : (dropS (width ll) st).length ≤ st.length := by
          unfold dropS
          rw [List.length_map]
          exact List.length_filter_le _ _
        refine ⟨t, _, rfl, SqT.of ht, rfl, _, _, rfl, _, _, rfl, rfl, ?_⟩
        refine ⟨.ref ls, rfl, .ref la, rfl, la, rfl, ⟨_, SqL.of hla⟩, fun D nD => ?_⟩
        refine lc_list (K := K) (a := la) (xs := aa.map V.ref) (fun j H' => Same H6 H' ∧ ∃ ca : List Addr, H' D = some (.lst (ca.map V.ref)) ∧ Rows H' ca ((at_.take j).map fun r => r.drop (width ll))) ⟨same_new nD, [], upd_same, by rw [List.take_zero]; exact True.intro⟩ (fun j H' _ hP => SqL.of (hP.1 _ _ hla)) (fun j x H' hx ⟨sj, hca⟩ => ?_) (fun H' ⟨sj, ca, hD, hRc⟩ => ?_)
        · obtain ⟨a, ha, rfl⟩ := refAt hx
          obtain ⟨r, hr1, hr2⟩ := (Ra.same sj).at ha
          have hr2 : IntsAt H' a r := hr2
          refine ⟨rfl, yes (iteT ⟨.ref a, rfl, .int (width ll : Nat), rfl, _, rfl, noPart (slice_fromI (n := width ll) hr2 fun z H7 s7 hz => ?_)⟩)⟩
          rw [List.take_add_one, hr1, List.map_append]
          exact row_more nD sj hca (by rw [List.length_map, List.length_take]; omega) s7 hz
        · rw [List.length_map, halA, List.take_length] at hRc
          have hls6 := sj _ _ hls5
          have hcl := hRc.len
          rw [List.length_map] at hcl
          refine ⟨ls, D, _, _, rfl, rfl, hls6, hD, ?_, lo, ls, ao, sa ++ ca, oth, st ++ at_.map fun r => (width ll + i, r), _, _, _, rfl, ExtN.late (E4.trans (E5.trans (ExtN.of_same sj))) n4, tabs_list (T5.ext sj) hls6, n4, ?_, ?_, (Ro.same sj).lput hls6, by rw [upd_same, List.map_append], ?_, S.step (g := width ll + i) wl (by omega) (by rw [wn]; exact hc0) (by rw [wn]; exact hc) hE O⟩
          · rw [List.length_map, List.length_map]
            exact sz1000 (by omega)
          · exact (no.ne hls hlsn).symm
          · rw [upd_ne (no.ne hls hlsn).symm]
            exact sj _ _ hlo
          · rw [dropS_app]
            exact ((((Sr.ext E5).same sj)).lput hls6).app (hRc.lput hls6)
      · obtain ⟨lr, ls, ra, sa, rows, st, y3, y5, y6, rfl, E4, T4, n4, ne4, hlr, Rr, hls, Sr, S⟩ := hI
        exact ⟨.ref ls, rfl, q H5 ls sa st rows E4 T4 n4 hls Sr S⟩
end
end HL

namespace HL
/-! ### determinants of few rows -/
def z (a : List Int) (i : Nat) : Int := a.getD i 0
def D1 (a : List Int) : Int := z a 0
def D2 (a b : List Int) : Int := z a 0 * z b 1 - z a 1 * z b 0
def D3 (a b c : List Int) : Int := z a 0 * (z b 1 * z c 2 - z b 2 * z c 1) - z a 1 * (z b 0 * z c 2 - z b 2 * z c 0) + z a 2 * (z b 0 * z c 1 - z b 1 * z c 0)
/-- the minor of three rows without a column -/
def M4 (b c d : List Int) (i j k : Nat) : Int := z b i * (z c j * z d k - z c k * z d j) - z b j * (z c i * z d k - z c k * z d i) + z b k * (z c i * z d j - z c j * z d i)
def D4 (a b c d : List Int) : Int := z a 0 * M4 b c d 1 2 3 - z a 1 * M4 b c d 0 2 3 + z a 2 * M4 b c d 0 1 3 - z a 3 * M4 b c d 0 1 2
theorem D2_12 (a b : List Int) : D2 b a = -D2 a b := by unfold D2; grind
theorem D3_12 (a b c : List Int) : D3 b a c = -D3 a b c := by unfold D3; grind
theorem D3_23 (a b c : List Int) : D3 a c b = -D3 a b c := by unfold D3; grind
theorem D4_12 (a b c d : List Int) : D4 b a c d = -D4 a b c d := by unfold D4 M4; grind
theorem D4_23 (a b c d : List Int) : D4 a c b d = -D4 a b c d := by unfold D4 M4; grind
theorem D4_34 (a b c d : List Int) : D4 a b d c = -D4 a b c d := by unfold D4 M4; grind
theorem len1 {a : List Int} (h : a.length = 1) : ∃ x, a = [x] := by
  match a, h with
  | [x], _ => exact ⟨x, rfl⟩
theorem len2 {a : List Int} (h : a.length = 2) : ∃ x y, a = [x, y] := by
  match a, h with
  | [x, y], _ => exact ⟨x, y, rfl⟩
theorem len3 {a : List Int} (h : a.length = 3) : ∃ x y w, a = [x, y, w] := by
  match a, h with
  | [x, y, w], _ => exact ⟨x, y, w, rfl⟩
theorem len4 {a : List Int} (h : a.length = 4) : ∃ x y w v, a = [x, y, w, v] := by
  match a, h with
  | [x, y, w, v], _ => exact ⟨x, y, w, v, rfl⟩
theorem D1_dot {a : List Int} (h : a.length = 1) : D1 a = dotI a [1] := by
  obtain ⟨x, rfl⟩ := len1 h
  simp [D1, z, dotI]
theorem D2_dot {a : List Int} (b : List Int) (h : a.length = 2) : D2 a b = dotI a [z b 1, -z b 0] := by
  obtain ⟨x, y, rfl⟩ := len2 h
  simp [D2, z, dotI]
  grind
theorem D3_dot {a : List Int} (b c : List Int) (h : a.length = 3) : D3 a b c = dotI a [z b 1 * z c 2 - z b 2 * z c 1, -(z b 0 * z c 2 - z b 2 * z c 0), z b 0 * z c 1 - z b 1 * z c 0] := by
  obtain ⟨x, y, w, rfl⟩ := len3 h
  simp [D3, z, dotI]
  grind
theorem D4_dot {a : List Int} (b c d : List Int) (h : a.length = 4) : D4 a b c d = dotI a [M4 b c d 1 2 3, -M4 b c d 0 2 3, M4 b c d 0 1 3, -M4 b c d 0 1 2] := by
  obtain ⟨x, y, w, v, rfl⟩ := len4 h
  simp [D4, z, dotI]
  grind
theorem self_neg {x : Int} (h : x = -x) : x = 0 := by omega
theorem dvd_sw {d x y : Int} (e : y = -x) (h : d ∣ x) : d ∣ y := by rw [e]; exact Int.dvd_neg.mpr h
section
variable {d : Int} {L : List (List Int)}
theorem dd1 (hL : Len 1 L) (h : ∀ a ∈ L, d ∣ D1 a) {v : List Int} (hv : Lat 1 L v) : d ∣ D1 v := by
  rw [D1_dot (hv.len hL)]
  exact Lat.dvd hL (fun r hr => by rw [← D1_dot (hL r hr)]; exact h r hr) hv
/-- all pairs, where the rising ones are so -/
theorem up2 {P : Nat → Nat → Prop} (h : ∀ i j, i < j → P i j) (s12 : ∀ i j, P i j → P j i) (e12 : ∀ i, P i i) : ∀ i j, P i j := fun i j => by
  rcases Nat.lt_trichotomy i j with c | c | c
  · exact h i j c
  · rw [c]; exact e12 j
  · exact s12 _ _ (h j i c)
theorem up3 {P : Nat → Nat → Nat → Prop} (h : ∀ i j k, i < j → j < k → P i j k) (s12 : ∀ i j k, P i j k → P j i k) (s23 : ∀ i j k, P i j k → P i k j) (e12 : ∀ i k, P i i k) (e23 : ∀ i k, P i k k) : ∀ i j k, P i j k := by
  have A : ∀ i j k, i < j → P i j k := fun i j k hij => by
    rcases Nat.lt_trichotomy j k with c | c | c
    · exact h i j k hij c
    · rw [← c]; exact e23 i j
    · refine s23 _ _ _ ?_
      rcases Nat.lt_trichotomy i k with q | q | q
      · exact h i k j q c
      · rw [← q]; exact e12 i j
      · exact s12 _ _ _ (h k i j q hij)
  intro i j k
  rcases Nat.lt_trichotomy i j with c | c | c
  · exact A i j k c
  · rw [c]; exact e12 j k
  · exact s12 _ _ _ (A j i k c)
theorem up4 {P : Nat → Nat → Nat → Nat → Prop} (h : ∀ i j k l, i < j → j < k → k < l → P i j k l) (s12 : ∀ i j k l, P i j k l → P j i k l) (s23 : ∀ i j k l, P i j k l → P i k j l) (s34 : ∀ i j k l, P i j k l → P i j l k) (e12 : ∀ i k l, P i i k l) (e23 : ∀ i k l, P i k k l) (e34 : ∀ i j k, P i j k k) : ∀ i j k l, P i j k l := by
  have A : ∀ i j k l, i < j → j < k → P i j k l := fun i j k l hij hjk => by
    rcases Nat.lt_trichotomy k l with c | c | c
    · exact h i j k l hij hjk c
    · rw [← c]; exact e34 i j k
    · refine s34 _ _ _ _ ?_
      rcases Nat.lt_trichotomy j l with q | q | q
      · exact h i j l k hij q c
      · rw [← q]; exact e23 i j k
      · refine s23 _ _ _ _ ?_
        rcases Nat.lt_trichotomy i l with t | t | t
        · exact h i l j k t q hjk
        · rw [← t]; exact e12 i j k
        · exact s12 _ _ _ _ (h l i j k t hij hjk)
  have B : ∀ i j k l, i < j → P i j k l := fun i j k l hij => by
    rcases Nat.lt_trichotomy j k with c | c | c
    · exact A i j k l hij c
    · rw [← c]; exact e23 i j l
    · refine s23 _ _ _ _ ?_
      rcases Nat.lt_trichotomy i k with q | q | q
      · exact A i k j l q c
      · rw [← q]; exact e12 i j l
      · exact s12 _ _ _ _ (A k i j l q hij)
  intro i j k l
  rcases Nat.lt_trichotomy i j with c | c | c
  · exact B i j k l c
  · rw [c]; exact e12 j k l
  · exact s12 _ _ _ _ (B j i k l c)
theorem at_mem {a : List Int} (h : a ∈ L) : ∃ i, i < L.length ∧ L.getD i [] = a := by
  obtain ⟨i, hi, e⟩ := List.mem_iff_getElem.mp h
  exact ⟨i, hi, by rw [List.getD_eq_getElem?_getD, List.getElem?_eq_getElem hi, e]; rfl⟩
theorem dd2 (hL : Len 2 L) (h : ∀ i j, i < j → j < L.length → d ∣ D2 (L.getD i []) (L.getD j [])) {v u : List Int} (hv : Lat 2 L v) (hu : Lat 2 L u) : d ∣ D2 v u := by
  have all : ∀ i j, i < L.length → j < L.length → d ∣ D2 (L.getD i []) (L.getD j []) := up2 (P := fun i j => i < L.length → j < L.length → d ∣ D2 (L.getD i []) (L.getD j [])) (fun i j c _ q => h i j c q) (fun i j q a b => dvd_sw (D2_12 _ _) (q b a)) (fun i _ _ => by rw [self_neg (D2_12 _ _)]; exact Int.dvd_zero d)
  have m1 : ∀ b ∈ L, d ∣ D2 v b := fun b hb => by
    obtain ⟨j, hj, rfl⟩ := at_mem hb
    rw [D2_dot _ (hv.len hL)]
    refine Lat.dvd hL (fun a ha => ?_) hv
    obtain ⟨i, hi, rfl⟩ := at_mem ha
    rw [← D2_dot _ (hL _ ha)]
    exact all i j hi hj
  refine dvd_sw (D2_12 u v) ?_
  rw [D2_dot _ (hu.len hL)]
  refine Lat.dvd hL (fun a ha => ?_) hu
  rw [← D2_dot _ (hL _ ha)]
  exact dvd_sw (D2_12 v a) (m1 a ha)
theorem dd3 (hL : Len 3 L) (h : ∀ i j k, i < j → j < k → k < L.length → d ∣ D3 (L.getD i []) (L.getD j []) (L.getD k [])) {v u w : List Int} (hv : Lat 3 L v) (hu : Lat 3 L u) (hw : Lat 3 L w) : d ∣ D3 v u w := by
  have all : ∀ i j k, i < L.length → j < L.length → k < L.length → d ∣ D3 (L.getD i []) (L.getD j []) (L.getD k []) := up3 (P := fun i j k => i < L.length → j < L.length → k < L.length → d ∣ D3 (L.getD i []) (L.getD j []) (L.getD k [])) (fun i j k c c2 _ _ q => h i j k c c2 q) (fun i j k q a b c => dvd_sw (D3_12 _ _ _) (q b a c)) (fun i j k q a b c => dvd_sw (D3_23 _ _ _) (q a c b)) (fun i k _ _ _ => by rw [self_neg (D3_12 _ _ _)]; exact Int.dvd_zero d) (fun i k _ _ _ => by rw [self_neg (D3_23 _ _ _)]; exact Int.dvd_zero d)
  have one : ∀ {x : List Int}, Lat 3 L x → ∀ b c, (∀ a ∈ L, d ∣ D3 a b c) → d ∣ D3 x b c := fun {x} hx b c q => by
    rw [D3_dot _ _ (hx.len hL)]
    refine Lat.dvd hL (fun a ha => ?_) hx
    rw [← D3_dot _ _ (hL _ ha)]
    exact q a ha
  have m1 : ∀ b ∈ L, ∀ c ∈ L, d ∣ D3 v b c := fun b hb c hc => one hv b c fun a ha => by
    obtain ⟨i, hi, rfl⟩ := at_mem ha
    obtain ⟨j, hj, rfl⟩ := at_mem hb
    obtain ⟨k, hk, rfl⟩ := at_mem hc
    exact all i j k hi hj hk
  have m2 : ∀ c ∈ L, d ∣ D3 v u c := fun c hc => dvd_sw (D3_12 u v c) (one hu v c fun a ha => dvd_sw (D3_12 v a c) (m1 a ha c hc))
  exact dvd_sw (D3_23 v w u) (dvd_sw (D3_12 w v u) (one hw v u fun a ha => dvd_sw (D3_12 v a u) (dvd_sw (D3_23 v u a) (m2 a ha))))
theorem dd4 (hL : Len 4 L) (h : ∀ i j k l, i < j → j < k → k < l → l < L.length → d ∣ D4 (L.getD i []) (L.getD j []) (L.getD k []) (L.getD l [])) {v u w x : List Int} (hv : Lat 4 L v) (hu : Lat 4 L u) (hw : Lat 4 L w) (hx : Lat 4 L x) : d ∣ D4 v u w x := by
  have all : ∀ i j k l, i < L.length → j < L.length → k < L.length → l < L.length → d ∣ D4 (L.getD i []) (L.getD j []) (L.getD k []) (L.getD l []) := up4 (P := fun i j k l => i < L.length → j < L.length → k < L.length → l < L.length → d ∣ D4 (L.getD i []) (L.getD j []) (L.getD k []) (L.getD l []))
    (fun i j k l c c2 c3 _ _ _ q => h i j k l c c2 c3 q) (fun i j k l q a b c e => dvd_sw (D4_12 _ _ _ _) (q b a c e)) (fun i j k l q a b c e => dvd_sw (D4_23 _ _ _ _) (q a c b e)) (fun i j k l q a b c e => dvd_sw (D4_34 _ _ _ _) (q a b e c))
    (fun i k l _ _ _ _ => by rw [self_neg (D4_12 _ _ _ _)]; exact Int.dvd_zero d) (fun i k l _ _ _ _ => by rw [self_neg (D4_23 _ _ _ _)]; exact Int.dvd_zero d) (fun i j k _ _ _ _ => by rw [self_neg (D4_34 _ _ _ _)]; exact Int.dvd_zero d)
  have one : ∀ {x : List Int}, Lat 4 L x → ∀ b c e, (∀ a ∈ L, d ∣ D4 a b c e) → d ∣ D4 x b c e := fun {x} hx b c e q => by
    rw [D4_dot _ _ _ (hx.len hL)]
    refine Lat.dvd hL (fun a ha => ?_) hx
    rw [← D4_dot _ _ _ (hL _ ha)]
    exact q a ha
  have m1 : ∀ b ∈ L, ∀ c ∈ L, ∀ e ∈ L, d ∣ D4 v b c e := fun b hb c hc e he => one hv b c e fun a ha => by
    obtain ⟨i, hi, rfl⟩ := at_mem ha
    obtain ⟨j, hj, rfl⟩ := at_mem hb
    obtain ⟨k, hk, rfl⟩ := at_mem hc
    obtain ⟨l, hl, rfl⟩ := at_mem he
    exact all i j k l hi hj hk hl
  have m2 : ∀ c ∈ L, ∀ e ∈ L, d ∣ D4 v u c e := fun c hc e he => dvd_sw (D4_12 u v c e) (one hu v c e fun a ha => dvd_sw (D4_12 v a c e) (m1 a ha c hc e he))
  have m3 : ∀ e ∈ L, d ∣ D4 v u w e := fun e he => dvd_sw (D4_23 v w u e) (dvd_sw (D4_12 w v u e) (one hw v u e fun a ha => dvd_sw (D4_12 v a u e) (dvd_sw (D4_23 v u a e) (m2 a ha e he))))
  exact dvd_sw (D4_34 v u x w) (dvd_sw (D4_23 v x u w) (dvd_sw (D4_12 x v u w) (one hx v u w fun a ha => dvd_sw (D4_12 v a u w) (dvd_sw (D4_23 v u a w) (dvd_sw (D4_34 v u w a) (m3 a ha))))))
end
end HL

namespace HL
/-! ### some columns of rows -/
def selc (t : List Nat) (v : List Int) : List Int := t.map fun j => z v j
theorem selc_len {t : List Nat} {v : List Int} : (selc t v).length = t.length := by unfold selc; rw [List.length_map]
theorem zip_map {t : List Nat} {f h : Nat → Int} {k : Int} : subR (t.map f) (t.map h) k = t.map fun j => f j - k * h j := by
  induction t with
  | nil => rfl
  | cons x t ih =>
    show (f x - k * h x) :: subR (t.map f) (t.map h) k = _
    rw [ih]
    rfl
theorem selc_sub {t : List Nat} {v r : List Int} {k : Int} (h : v.length = r.length) : selc t (subR v r k) = subR (selc t v) (selc t r) k := by
  unfold selc
  rw [zip_map]
  exact List.map_congr_left fun j _ => subR_get h
theorem Lat.sel {n : Nat} {rows : List (List Int)} {v : List Int} (hr : Len n rows) (t : List Nat) (h : Lat n rows v) : Lat t.length (rows.map (selc t)) (selc t v) := by
  induction h with
  | nil =>
    have e : selc t (List.replicate n 0) = List.replicate t.length 0 := by
      unfold selc
      rw [← List.map_const']
      refine List.map_congr_left fun j _ => ?_
      unfold z
      rw [List.getD_eq_getElem?_getD, List.getElem?_replicate]
      split <;> rfl
    rw [e]
    exact .nil
  | more k h m ih =>
    rw [selc_sub (by rw [h.len hr, hr _ m])]
    exact .more k ih (List.mem_map.mpr ⟨_, m, rfl⟩)
theorem Lat.thin {n : Nat} {rows rows' : List (List Int)} {v : List Int} (hr : Len n rows') (h : ∀ r ∈ rows, r ∈ rows' ∨ r = List.replicate n 0) (hv : Lat n rows v) : Lat n rows' v := by
  refine Lat.mono hr (fun r m => ?_) hv
  rcases h r m with q | q
  · exact .one hr q
  · rw [q]; exact .nil
/-! ### what stairs tell -/
structure Spt (g k : Nat) (ll : List (List Int)) (A B : List (Nat × List Int)) : Prop where
  lk : ll.length = k
  lg : ∀ r ∈ ll, r.length = g
  ech : Ech (g + k) (A ++ B)
  ha : ∀ q ∈ A, q.1 < g
  hb : ∀ q ∈ B, g ≤ q.1
  all : A.length + B.length ≤ k
  to : ∀ i, i < k → Lat (g + k) ((A ++ B).map (·.2)) (ll.getD i [] ++ unI i k)
  back : ∀ q ∈ A ++ B, Lat (g + k) ((List.range k).map fun i => ll.getD i [] ++ unI i k) q.2
section
variable {g k : Nat} {ll : List (List Int)} {A B : List (Nat × List Int)}
theorem Spt.lenS (h : Spt g k ll A B) : Len (g + k) ((A ++ B).map (·.2)) := HL.lenS h.ech
theorem Spt.lenI (h : Spt g k ll A B) {i : Nat} (hi : i < k) : (ll.getD i []).length = g := by
  have : i < ll.length := by rw [h.lk]; exact hi
  rw [List.getD_eq_getElem?_getD, List.getElem?_eq_getElem this]
  exact h.lg _ (List.getElem_mem _)
theorem Spt.lenW (h : Spt g k ll A B) : Len (g + k) ((List.range k).map fun i => ll.getD i [] ++ unI i k) := fun r hr => by
  obtain ⟨i, hi, rfl⟩ := List.mem_map.mp hr
  have hi := List.mem_range.mp hi
  rw [List.length_append, h.lenI hi, unI_len hi]
def behind (g k : Nat) : List Nat := (List.range k).map fun j => g + j
theorem z_app {a b : List Int} {j : Nat} : z (a ++ b) j = if j < a.length then z a j else z b (j - a.length) := by
  unfold z
  rw [List.getD_eq_getElem?_getD, List.getElem?_append]
  split
  · rw [List.getD_eq_getElem?_getD]
  · rw [List.getD_eq_getElem?_getD]
theorem selc_self {b : List Int} {k : Nat} (h : b.length = k) : (List.range k).map (fun j => z b j) = b := by
  refine List.ext_getElem? fun j => ?_
  rw [List.getElem?_map]
  by_cases c : j < k
  · rw [List.getElem?_range c]
    show some (b.getD j 0) = _
    rw [List.getD_eq_getElem?_getD, List.getElem?_eq_getElem (by omega)]
    rfl
  · rw [List.getElem?_eq_none (by rw [List.length_range]; omega), List.getElem?_eq_none (by omega)]
    rfl
theorem selc_behind {a b : List Int} {k : Nat} (h : b.length = k) : selc (behind a.length k) (a ++ b) = b := by
  unfold selc behind
  rw [List.map_map]
  refine Eq.trans (List.map_congr_left fun j _ => ?_) (selc_self h)
  show z (a ++ b) (a.length + j) = z b j
  rw [z_app, if_neg (by omega), Nat.add_sub_cancel_left]
theorem behind_len {g k : Nat} : (behind g k).length = k := by unfold behind; rw [List.length_map, List.length_range]
theorem selc_drop {v : List Int} {g k : Nat} (h : v.length = g + k) : selc (behind g k) v = v.drop g := by
  have e : v = v.take g ++ v.drop g := (List.take_append_drop g v).symm
  have tl : (v.take g).length = g := by rw [List.length_take]; omega
  have := selc_behind (a := v.take g) (b := v.drop g) (k := k) (by rw [List.length_drop]; omega)
  rw [tl, ← e] at this
  exact this
/-- the counts of all stairs -/
def cts (g : Nat) (S : List (Nat × List Int)) : List (List Int) := S.map fun q => q.2.drop g
theorem cts_sel (h : Spt g k ll A B) : ((A ++ B).map (·.2)).map (selc (behind g k)) = cts g (A ++ B) := by
  unfold cts
  rw [List.map_map]
  exact List.map_congr_left fun q hq => selc_drop (h.ech.ok q hq).2.1
theorem Spt.unit (h : Spt g k ll A B) {i : Nat} (hi : i < k) : Lat k (cts g (A ++ B)) (unI i k) := by
  have := (h.to i hi).sel h.lenS (behind g k)
  rw [cts_sel h, behind_len] at this
  have e := selc_behind (a := ll.getD i []) (b := unI i k) (k := k) (unI_len hi)
  rw [h.lenI hi] at e
  rw [e] at this
  exact this
theorem Spt.lenC (h : Spt g k ll A B) : Len k (cts g (A ++ B)) := fun r hr => by
  obtain ⟨q, hq, rfl⟩ := List.mem_map.mp hr
  rw [List.length_drop, (h.ech.ok q hq).2.1]
  omega
/-- what divides the determinant of all stairs' counts is 1 -/
theorem Spt.one (h : Spt g k ll A B) {d : Int} (k1 : 1 ≤ k) (k4 : k ≤ 4)
    (h1 : k = 1 → ∀ a ∈ cts g (A ++ B), d ∣ D1 a) (h2 : k = 2 → ∀ i j, i < j → j < (cts g (A ++ B)).length → d ∣ D2 ((cts g (A ++ B)).getD i []) ((cts g (A ++ B)).getD j []))
    (h3 : k = 3 → ∀ i j l, i < j → j < l → l < (cts g (A ++ B)).length → d ∣ D3 ((cts g (A ++ B)).getD i []) ((cts g (A ++ B)).getD j []) ((cts g (A ++ B)).getD l []))
    (h4 : k = 4 → ∀ i j l m, i < j → j < l → l < m → m < (cts g (A ++ B)).length → d ∣ D4 ((cts g (A ++ B)).getD i []) ((cts g (A ++ B)).getD j []) ((cts g (A ++ B)).getD l []) ((cts g (A ++ B)).getD m [])) : d ∣ 1 := by
  have hl := h.lenC
  have hu := fun i hi => h.unit (i := i) hi
  generalize cts g (A ++ B) = U at hl hu h1 h2 h3 h4
  have : k = 1 ∨ k = 2 ∨ k = 3 ∨ k = 4 := by omega
  rcases this with rfl | rfl | rfl | rfl
  · have := dd1 hl (h1 rfl) (hu 0 (by decide))
    have e : D1 (unI 0 1) = 1 := by decide
    rwa [e] at this
  · have := dd2 hl (h2 rfl) (hu 0 (by decide)) (hu 1 (by decide))
    have e : D2 (unI 0 2) (unI 1 2) = 1 := by decide
    rwa [e] at this
  · have := dd3 hl (h3 rfl) (hu 0 (by decide)) (hu 1 (by decide)) (hu 2 (by decide))
    have e : D3 (unI 0 3) (unI 1 3) (unI 2 3) = 1 := by decide
    rwa [e] at this
  · have := dd4 hl (h4 rfl) (hu 0 (by decide)) (hu 1 (by decide)) (hu 2 (by decide)) (hu 3 (by decide))
    have e : D4 (unI 0 4) (unI 1 4) (unI 2 4) (unI 3 4) = 1 := by decide
    rwa [e] at this
/-- there are as many stairs as kinds -/
theorem Spt.full (h : Spt g k ll A B) (k1 : 1 ≤ k) (k4 : k ≤ 4) : A.length + B.length = k := by
  by_cases c : A.length + B.length = k
  · exact c
  · exfalso
    have hlt : (cts g (A ++ B)).length < k := by
      unfold cts
      rw [List.length_map, List.length_append]
      have := h.all
      omega
    have : (0 : Int) ∣ 1 := h.one k1 k4 (fun e a ha => by have := List.length_pos_of_mem ha; omega) (fun e i j _ _ => by omega) (fun e i j l _ _ _ => by omega) (fun e i j l m _ _ _ _ => by omega)
    have := Int.zero_dvd.mp this
    cases this
theorem lin2 {d a b x y : Int} (h1 : d ∣ a) (h2 : d ∣ b) : d ∣ x * a + y * b := Int.dvd_add (Int.dvd_mul_of_dvd_right h1) (Int.dvd_mul_of_dvd_right h2)
theorem lin3 {d a b c x y w : Int} (h1 : d ∣ a) (h2 : d ∣ b) (h3 : d ∣ c) : d ∣ x * a + y * b + w * c := Int.dvd_add (lin2 h1 h2) (Int.dvd_mul_of_dvd_right h3)
theorem cts_app {g : Nat} {A B : List (Nat × List Int)} : cts g (A ++ B) = cts g A ++ cts g B := by unfold cts; rw [List.map_append]
/-- d divides all minors of the swaps that are told, so it is 1 -/
theorem Spt.gcd (h : Spt g k ll A B) {d : Int} (k1 : 1 ≤ k) (k4 : k ≤ 4) (a1 : 1 ≤ A.length)
    (m1 : ∀ t, cts g B = [t] → ∀ c, c < k → d ∣ z t c) (m2 : ∀ t u, cts g B = [t, u] → ∀ c e, c < e → e < k → d ∣ z t c * z u e - z t e * z u c)
    (m3 : ∀ t u w, cts g B = [t, u, w] → ∀ c e f, c < e → e < f → f < k → d ∣ D3 (selc [c, e, f] t) (selc [c, e, f] u) (selc [c, e, f] w)) (b1 : 1 ≤ B.length) : d ∣ 1 := by
  have hf := h.full k1 k4
  have lc : (cts g A).length = A.length ∧ (cts g B).length = B.length := by unfold cts; rw [List.length_map, List.length_map]; exact ⟨rfl, rfl⟩
  have hk : k = 2 ∨ k = 3 ∨ k = 4 := by omega
  have hn : (cts g (A ++ B)).length = k := by rw [cts_app, List.length_append]; omega
  have base := fun (h1 : k = 1 → ∀ a ∈ cts g (A ++ B), d ∣ D1 a) h2 h3 h4 => h.one k1 k4 (d := d) h1 h2 h3 h4
  rw [cts_app] at base hn
  generalize cts g A = X at base hn lc
  generalize cts g B = Y at base hn lc m1 m2 m3
  have hcase : (k = 2 ∧ X.length = 1 ∧ Y.length = 1) ∨ (k = 3 ∧ X.length = 2 ∧ Y.length = 1) ∨ (k = 3 ∧ X.length = 1 ∧ Y.length = 2) ∨ (k = 4 ∧ X.length = 3 ∧ Y.length = 1) ∨ (k = 4 ∧ X.length = 2 ∧ Y.length = 2) ∨ (k = 4 ∧ X.length = 1 ∧ Y.length = 3) := by omega
  have l1 : ∀ {L : List (List Int)}, L.length = 1 → ∃ a, L = [a] := fun {L} e => by
    match L, e with
    | [a], _ => exact ⟨a, rfl⟩
  have l2 : ∀ {L : List (List Int)}, L.length = 2 → ∃ a b, L = [a, b] := fun {L} e => by
    match L, e with
    | [a, b], _ => exact ⟨a, b, rfl⟩
  have l3 : ∀ {L : List (List Int)}, L.length = 3 → ∃ a b c, L = [a, b, c] := fun {L} e => by
    match L, e with
    | [a, b, c], _ => exact ⟨a, b, c, rfl⟩
  refine base (fun e => by omega) (fun e i j hij hj => ?_) (fun e i j l hij hjl hl => ?_) (fun e i j l m hij hjl hlm hm => ?_)
  · rcases hcase with ⟨_, hx, hy⟩ | ⟨q, _⟩ | ⟨q, _⟩ | ⟨q, _⟩ | ⟨q, _⟩ | ⟨q, _⟩ <;> try omega
    obtain ⟨x, rfl⟩ := l1 hx
    obtain ⟨t, rfl⟩ := l1 hy
    have : i = 0 ∧ j = 1 := by simp at hj; omega
    obtain ⟨rfl, rfl⟩ := this
    have q := m1 t rfl
    show d ∣ D2 x t
    have e : D2 x t = z x 0 * z t 1 + (-z x 1) * z t 0 := by unfold D2; grind
    rw [e]
    exact lin2 (q 1 (by omega)) (q 0 (by omega))
  · have hl3 : i = 0 ∧ j = 1 ∧ l = 2 := by rw [hn] at hl; omega
    obtain ⟨rfl, rfl, rfl⟩ := hl3
    rcases hcase with ⟨q, _⟩ | ⟨_, hx, hy⟩ | ⟨_, hx, hy⟩ | ⟨q, _⟩ | ⟨q, _⟩ | ⟨q, _⟩ <;> try omega
    · obtain ⟨x, y, rfl⟩ := l2 hx
      obtain ⟨t, rfl⟩ := l1 hy
      have q := m1 t rfl
      show d ∣ D3 x y t
      have e : D3 x y t = (z x 1 * z y 2 - z x 2 * z y 1) * z t 0 + (z x 2 * z y 0 - z x 0 * z y 2) * z t 1 + (z x 0 * z y 1 - z x 1 * z y 0) * z t 2 := by unfold D3; grind
      rw [e]
      exact lin3 (q 0 (by omega)) (q 1 (by omega)) (q 2 (by omega))
    · obtain ⟨x, rfl⟩ := l1 hx
      obtain ⟨t, u, rfl⟩ := l2 hy
      have q := m2 t u rfl
      show d ∣ D3 x t u
      have e : D3 x t u = z x 0 * (z t 1 * z u 2 - z t 2 * z u 1) + (-z x 1) * (z t 0 * z u 2 - z t 2 * z u 0) + z x 2 * (z t 0 * z u 1 - z t 1 * z u 0) := by unfold D3; grind
      rw [e]
      exact lin3 (q 1 2 (by omega) (by omega)) (q 0 2 (by omega) (by omega)) (q 0 1 (by omega) (by omega))
  · have hl4 : i = 0 ∧ j = 1 ∧ l = 2 ∧ m = 3 := by rw [hn] at hm; omega
    obtain ⟨rfl, rfl, rfl, rfl⟩ := hl4
    rcases hcase with ⟨q, _⟩ | ⟨q, _⟩ | ⟨q, _⟩ | ⟨_, hx, hy⟩ | ⟨_, hx, hy⟩ | ⟨_, hx, hy⟩ <;> try omega
    · obtain ⟨x, y, w, rfl⟩ := l3 hx
      obtain ⟨t, rfl⟩ := l1 hy
      have q := m1 t rfl
      show d ∣ D4 x y w t
      have e : D4 x y w t = (-(M4 x y w 1 2 3)) * z t 0 + (M4 x y w 0 2 3) * z t 1 + (-(M4 x y w 0 1 3)) * z t 2 + (M4 x y w 0 1 2) * z t 3 := by unfold D4 M4; grind
      rw [e]
      exact Int.dvd_add (lin3 (q 0 (by omega)) (q 1 (by omega)) (q 2 (by omega))) (Int.dvd_mul_of_dvd_right (q 3 (by omega)))
    · obtain ⟨x, y, rfl⟩ := l2 hx
      obtain ⟨t, u, rfl⟩ := l2 hy
      have q := m2 t u rfl
      show d ∣ D4 x y t u
      have e : D4 x y t u = ((z x 0 * z y 1 - z x 1 * z y 0) * (z t 2 * z u 3 - z t 3 * z u 2) + (-(z x 0 * z y 2 - z x 2 * z y 0)) * (z t 1 * z u 3 - z t 3 * z u 1) + (z x 0 * z y 3 - z x 3 * z y 0) * (z t 1 * z u 2 - z t 2 * z u 1))
        + ((z x 1 * z y 2 - z x 2 * z y 1) * (z t 0 * z u 3 - z t 3 * z u 0) + (-(z x 1 * z y 3 - z x 3 * z y 1)) * (z t 0 * z u 2 - z t 2 * z u 0) + (z x 2 * z y 3 - z x 3 * z y 2) * (z t 0 * z u 1 - z t 1 * z u 0)) := by unfold D4 M4; grind
      rw [e]
      exact Int.dvd_add (lin3 (q 2 3 (by omega) (by omega)) (q 1 3 (by omega) (by omega)) (q 1 2 (by omega) (by omega))) (lin3 (q 0 3 (by omega) (by omega)) (q 0 2 (by omega) (by omega)) (q 0 1 (by omega) (by omega)))
    · obtain ⟨x, rfl⟩ := l1 hx
      obtain ⟨t, u, w, rfl⟩ := l3 hy
      have q := m3 t u w rfl
      show d ∣ D4 x t u w
      have e : D4 x t u w = (z x 0 * D3 (selc [1, 2, 3] t) (selc [1, 2, 3] u) (selc [1, 2, 3] w) + (-z x 1) * D3 (selc [0, 2, 3] t) (selc [0, 2, 3] u) (selc [0, 2, 3] w) + z x 2 * D3 (selc [0, 1, 3] t) (selc [0, 1, 3] u) (selc [0, 1, 3] w)) + (-z x 3) * D3 (selc [0, 1, 2] t) (selc [0, 1, 2] u) (selc [0, 1, 2] w) := by
        simp only [D4, M4, D3, selc, z, List.map_cons, List.map_nil, List.getD_cons_zero, List.getD_cons_succ]
        grind
      rw [e]
      exact Int.dvd_add (lin3 (q 1 2 3 (by omega) (by omega) (by omega)) (q 0 2 3 (by omega) (by omega) (by omega)) (q 0 1 3 (by omega) (by omega) (by omega))) (Int.dvd_mul_of_dvd_right (q 0 1 2 (by omega) (by omega) (by omega)))
end
end HL

namespace HL
section
variable {g k : Nat} {ll : List (List Int)} {A B : List (Nat × List Int)}
theorem map_sel {t : List Nat} (h : Spt g k ll A B) (ht : ∀ j ∈ t, j < g) : ∀ i, i < k → selc t (ll.getD i [] ++ unI i k) = selc t (ll.getD i []) := fun i hi => by
  unfold selc
  exact List.map_congr_left fun j hj => by rw [z_app, if_pos (by rw [h.lenI hi]; exact ht j hj)]
/-- the kinds' goods are whole sums of the stairs that begin with goods -/
theorem Spt.goods (h : Spt g k ll A B) {t : List Nat} (ht : ∀ j ∈ t, j < g) {i : Nat} (hi : i < k) : Lat t.length (A.map fun q => selc t q.2) (selc t (ll.getD i [])) := by
  have h1 := (h.to i hi).sel h.lenS t
  rw [map_sel h ht i hi] at h1
  refine h1.thin (fun r hr => ?_) fun r hr => ?_
  · obtain ⟨q, _, rfl⟩ := List.mem_map.mp hr
    exact selc_len
  · obtain ⟨v, hv, rfl⟩ := List.mem_map.mp hr
    obtain ⟨q, hq, rfl⟩ := List.mem_map.mp hv
    rcases List.mem_append.mp hq with c | c
    · exact .inl (List.mem_map.mpr ⟨q, c, rfl⟩)
    · refine .inr ?_
      unfold selc
      rw [← List.map_const']
      refine List.map_congr_left fun j hj => ?_
      exact (h.ech.ok q hq).2.2.2 j (Nat.lt_of_lt_of_le (ht j hj) (h.hb q c))
/-- and the other way about -/
theorem Spt.goodsB (h : Spt g k ll A B) {t : List Nat} (ht : ∀ j ∈ t, j < g) {q : Nat × List Int} (hq : q ∈ A) : Lat t.length ((List.range k).map fun i => selc t (ll.getD i [])) (selc t q.2) := by
  have h1 := (h.back q (List.mem_append_left _ hq)).sel h.lenW t
  have e : ((List.range k).map fun i => ll.getD i [] ++ unI i k).map (selc t) = (List.range k).map fun i => selc t (ll.getD i []) := by
    rw [List.map_map]
    exact List.map_congr_left fun i hi => map_sel h ht i (List.mem_range.mp hi)
  rw [e] at h1
  exact h1
theorem lenA {t : List Nat} : Len t.length (A.map fun q => selc t q.2) := fun r hr => by
  obtain ⟨q, _, rfl⟩ := List.mem_map.mp hr
  exact selc_len
theorem lenK {t : List Nat} : Len t.length ((List.range k).map fun i => selc t (ll.getD i [])) := fun r hr => by
  obtain ⟨q, _, rfl⟩ := List.mem_map.mp hr
  exact selc_len
theorem z0 {x : Int} (h : (0 : Int) ∣ x) : x = 0 := Int.zero_dvd.mp h
/-- minors greater than the stairs that begin with goods are many -/
theorem Spt.none1 (h : Spt g k ll A B) (hA : A.length < 1) {c : Nat} (hc : c < g) {i : Nat} (hi : i < k) : D1 (selc [c] (ll.getD i [])) = 0 := by
  refine z0 (dd1 (lenA (A := A) (t := [c])) (fun a ha => ?_) (h.goods (t := [c]) (by simpa using hc) hi))
  have := List.length_pos_of_mem ha
  rw [List.length_map] at this
  omega
theorem Spt.none2 (h : Spt g k ll A B) (hA : A.length < 2) {c e : Nat} (hc : c < g) (he : e < g) {i j : Nat} (hi : i < k) (hj : j < k) : D2 (selc [c, e] (ll.getD i [])) (selc [c, e] (ll.getD j [])) = 0 := by
  have ht : ∀ x ∈ [c, e], x < g := fun x hx => by simp at hx; omega
  refine z0 (dd2 (lenA (A := A) (t := [c, e])) (fun a b hab hb => ?_) (h.goods ht hi) (h.goods ht hj))
  rw [List.length_map] at hb
  omega
theorem Spt.none3 (h : Spt g k ll A B) (hA : A.length < 3) {c e f : Nat} (hc : c < g) (he : e < g) (hf : f < g) {i j l : Nat} (hi : i < k) (hj : j < k) (hl : l < k) : D3 (selc [c, e, f] (ll.getD i [])) (selc [c, e, f] (ll.getD j [])) (selc [c, e, f] (ll.getD l [])) = 0 := by
  have ht : ∀ x ∈ [c, e, f], x < g := fun x hx => by simp at hx; omega
  refine z0 (dd3 (lenA (A := A) (t := [c, e, f])) (fun a b d hab hbd hd => ?_) (h.goods ht hi) (h.goods ht hj) (h.goods ht hl))
  rw [List.length_map] at hd
  omega
theorem getK {t : List Nat} {i : Nat} (hi : i < k) : ((List.range k).map fun i => selc t (ll.getD i [])).getD i [] = selc t (ll.getD i []) := by
  rw [List.getD_eq_getElem?_getD, List.getElem?_map, List.getElem?_range hi]
  rfl
theorem lenR {t : List Nat} : ((List.range k).map fun i => selc t (ll.getD i [])).length = k := by rw [List.length_map, List.length_range]
/-- some minor of just that size is none of 0 -/
theorem Spt.some1 (h : Spt g k ll A B) {a : Nat × List Int} (hA : A = [a]) (all : ∀ c, c < g → ∀ i, i < k → D1 (selc [c] (ll.getD i [])) = 0) : False := by
  subst hA
  have ha : a ∈ [a] := List.mem_singleton.mpr rfl
  have hg := h.ha a ha
  have o := h.ech.ok a (List.mem_append_left _ ha)
  have ht : ∀ x ∈ [a.1], x < g := fun x hx => by simp at hx; omega
  have := z0 (dd1 (d := 0) (lenK (k := k) (ll := ll) (t := [a.1])) (fun v hv => by
    obtain ⟨i, hi, rfl⟩ := List.mem_map.mp hv
    rw [all a.1 hg i (List.mem_range.mp hi)]
    exact Int.dvd_zero 0) (h.goodsB ht ha))
  exact o.2.2.1 this
theorem Spt.some2 (h : Spt g k ll A B) {a b : Nat × List Int} (hA : A = [a, b]) (all : ∀ c e, c < e → e < g → ∀ i j, i < j → j < k → D2 (selc [c, e] (ll.getD i [])) (selc [c, e] (ll.getD j [])) = 0) : False := by
  subst hA
  have ma : a ∈ [a, b] := List.mem_cons_self
  have mb : b ∈ [a, b] := List.mem_cons_of_mem _ List.mem_cons_self
  have hab : a.1 < b.1 := (List.pairwise_cons.mp (List.pairwise_append.mp h.ech.rise).1).1 b List.mem_cons_self
  have hg := h.ha b mb
  have oa := h.ech.ok a (List.mem_append_left _ ma)
  have ob := h.ech.ok b (List.mem_append_left _ mb)
  have ht : ∀ x ∈ [a.1, b.1], x < g := fun x hx => by simp at hx; omega
  have := z0 (dd2 (d := 0) (lenK (k := k) (ll := ll) (t := [a.1, b.1])) (fun i j hij hj => by
    rw [lenR] at hj
    rw [getK (by omega), getK hj, all a.1 b.1 hab hg i j hij hj]
    exact Int.dvd_zero 0) (h.goodsB ht ma) (h.goodsB ht mb))
  have e : D2 (selc [a.1, b.1] a.2) (selc [a.1, b.1] b.2) = z a.2 a.1 * z b.2 b.1 - z a.2 b.1 * z b.2 a.1 := rfl
  have zb : z b.2 a.1 = 0 := ob.2.2.2 a.1 hab
  rw [e, zb, Int.mul_zero, Int.sub_zero] at this
  rcases Int.mul_eq_zero.mp this with q | q
  · exact oa.2.2.1 q
  · exact ob.2.2.1 q
theorem Spt.some3 (h : Spt g k ll A B) {a b c : Nat × List Int} (hA : A = [a, b, c]) (all : ∀ x y w, x < y → y < w → w < g → ∀ i j l, i < j → j < l → l < k → D3 (selc [x, y, w] (ll.getD i [])) (selc [x, y, w] (ll.getD j [])) (selc [x, y, w] (ll.getD l [])) = 0) : False := by
  subst hA
  have ma : a ∈ [a, b, c] := List.mem_cons_self
  have mb : b ∈ [a, b, c] := List.mem_cons_of_mem _ List.mem_cons_self
  have mc : c ∈ [a, b, c] := List.mem_cons_of_mem _ (List.mem_cons_of_mem _ List.mem_cons_self)
  have r := List.pairwise_cons.mp (List.pairwise_append.mp h.ech.rise).1
  have hab : a.1 < b.1 := r.1 b List.mem_cons_self
  have hbc : b.1 < c.1 := (List.pairwise_cons.mp r.2).1 c List.mem_cons_self
  have hg := h.ha c mc
  have oa := h.ech.ok a (List.mem_append_left _ ma)
  have ob := h.ech.ok b (List.mem_append_left _ mb)
  have oc := h.ech.ok c (List.mem_append_left _ mc)
  have ht : ∀ x ∈ [a.1, b.1, c.1], x < g := fun x hx => by simp at hx; omega
  have := z0 (dd3 (d := 0) (lenK (k := k) (ll := ll) (t := [a.1, b.1, c.1])) (fun i j l hij hjl hl => by
    rw [lenR] at hl
    rw [getK (by omega), getK (by omega), getK hl, all a.1 b.1 c.1 hab hbc hg i j l hij hjl hl]
    exact Int.dvd_zero 0) (h.goodsB ht ma) (h.goodsB ht mb) (h.goodsB ht mc))
  have e : D3 (selc [a.1, b.1, c.1] a.2) (selc [a.1, b.1, c.1] b.2) (selc [a.1, b.1, c.1] c.2) = z a.2 a.1 * (z b.2 b.1 * z c.2 c.1 - z b.2 c.1 * z c.2 b.1) - z a.2 b.1 * (z b.2 a.1 * z c.2 c.1 - z b.2 c.1 * z c.2 a.1) + z a.2 c.1 * (z b.2 a.1 * z c.2 b.1 - z b.2 b.1 * z c.2 a.1) := rfl
  have z1 : z b.2 a.1 = 0 := ob.2.2.2 a.1 hab
  have z2 : z c.2 a.1 = 0 := oc.2.2.2 a.1 (by omega)
  have z3 : z c.2 b.1 = 0 := oc.2.2.2 b.1 hbc
  rw [e, z1, z2, z3] at this
  simp only [Int.mul_zero, Int.zero_mul, Int.sub_zero, Int.add_zero] at this
  rcases Int.mul_eq_zero.mp this with q | q
  · exact oa.2.2.1 q
  · rcases Int.mul_eq_zero.mp q with q | q
    · exact ob.2.2.1 q
    · exact oc.2.2.1 q
/-! ### what is told is swaps -/
theorem dot_un : ∀ {i k : Nat} {y : List Int}, i < k → y.length = k → dotI (unI i k) y = z y i
  | _, 0, _, h, _ => by omega
  | _, _ + 1, [], _, e => by cases e
  | 0, k + 1, a :: y, _, e => by
    show dotI (1 :: List.replicate k 0) (a :: y) = a
    rw [dotI_cons, dot_rep]
    omega
  | i + 1, k + 1, a :: y, h, e => by
    have eu : unI (i + 1) (k + 1) = 0 :: unI i k := by
      unfold unI
      have : k + 1 - (i + 1) - 1 = k - i - 1 := by omega
      rw [this]
      rfl
    rw [eu, dotI_cons, dot_un (by omega) (Nat.succ.inj e)]
    show 0 * a + z y i = z y i
    omega
theorem dot_app : ∀ {a b x y : List Int}, a.length = x.length → dotI (a ++ b) (x ++ y) = dotI a x + dotI b y
  | [], b, [], y, _ => by rw [List.nil_append, List.nil_append, dotI_nil, Int.zero_add]
  | a :: as, b, x :: xs, y, e => by
    rw [List.cons_append, List.cons_append, dotI_cons, dotI_cons, dot_app (Nat.succ.inj e)]
    omega
  | [], _, _ :: _, _, e => by cases e
  | _ :: _, _, [], _, e => by cases e
theorem pack_dot : ∀ {ll : List (List Int)} {cs : List Int} {j : Nat}, packI ll cs j = dotI cs (ll.map fun r => z r j)
  | [], cs, j => by
    unfold packI
    rw [List.map_nil, dotI_nil2, List.zip_nil_right]
    rfl
  | r :: ll, [], j => by
    unfold packI
    rw [dotI_nil]
    rfl
  | r :: ll, c :: cs, j => by
    have ih := pack_dot (ll := ll) (cs := cs) (j := j)
    unfold packI at ih ⊢
    rw [List.zip_cons_cons, List.map_cons, List.sum_cons, ih, List.map_cons, dotI_cons]
    rfl
theorem dot_neg : ∀ {a y : List Int}, dotI a (y.map fun x => -x) = -dotI a y
  | [], _ => by rw [dotI_nil, dotI_nil]; rfl
  | _ :: _, [] => by rw [List.map_nil, dotI_nil2]; rfl
  | x :: a, w :: y => by
    rw [List.map_cons, dotI_cons, dotI_cons, dot_neg]
    grind
theorem Spt.swap (h : Spt g k ll A B) {q : Nat × List Int} (hq : q ∈ B) : (q.2.drop g).length = k ∧ (∃ x ∈ q.2.drop g, x ≠ 0) ∧ ∀ j, j < g → packI ll (q.2.drop g) j = 0 := by
  have hm : q ∈ A ++ B := List.mem_append_right _ hq
  have o := h.ech.ok q hm
  have hb := h.hb q hq
  refine ⟨by rw [List.length_drop, o.2.1]; omega, ⟨pz q.1 q.2, ?_, o.2.2.1⟩, fun j hj => ?_⟩
  · have e : pz q.1 q.2 = q.2[q.1]'(by rw [o.2.1]; exact o.1) := by
      show q.2.getD q.1 0 = _
      rw [List.getD_eq_getElem?_getD, List.getElem?_eq_getElem (by rw [o.2.1]; exact o.1)]
      rfl
    rw [e]
    refine List.mem_iff_getElem.mpr ⟨q.1 - g, by rw [List.length_drop, o.2.1]; have := o.1; omega, ?_⟩
    rw [List.getElem_drop]
    congr 1
    omega
  · have hx : (0 : Int) ∣ dotI q.2 (unI j g ++ (ll.map fun r => z r j).map fun x => -x) := by
      refine Lat.dvd h.lenW (fun r hr => ?_) (h.back q hm)
      obtain ⟨i, hi, rfl⟩ := List.mem_map.mp hr
      have hi := List.mem_range.mp hi
      have li := h.lenI hi
      rw [dot_app (by rw [li, unI_len hj]), dotI_comm, dot_un hj li, dot_neg, dot_un hi (by rw [List.length_map, h.lk])]
      have : z (ll.map fun r => z r j) i = z (ll.getD i []) j := by
        have hi' : i < ll.length := by rw [h.lk]; exact hi
        show (ll.map fun r => z r j).getD i 0 = z (ll.getD i []) j
        rw [List.getD_eq_getElem?_getD, List.getElem?_map, List.getElem?_eq_getElem hi', List.getD_eq_getElem?_getD, List.getElem?_eq_getElem hi']
        rfl
      rw [this]
      refine ⟨0, by omega⟩
    have h0 := z0 hx
    have tl : (q.2.take g).length = g := by rw [List.length_take, o.2.1]; omega
    have e : q.2 = q.2.take g ++ q.2.drop g := (List.take_append_drop g q.2).symm
    rw [e, dot_app (by rw [tl, unI_len hj]), dotI_comm, dot_un hj tl, dot_neg] at h0
    have zt : z (q.2.take g) j = 0 := by
      have := o.2.2.2 j (by omega)
      show (q.2.take g).getD j 0 = 0
      rw [List.getD_eq_getElem?_getD, List.getElem?_take, if_pos hj]
      exact this
    rw [zt] at h0
    rw [pack_dot]
    have e2 : (List.take g q.2 ++ List.drop g q.2).drop g = q.2.drop g := by rw [List.take_append_drop]
    omega
end
/-- the stairs, parted -/
theorem sp_of {ll rows : List (List Int)} {st : List (Nat × List Int)} (ef : flaw ll = none) (S : SInv (width ll + ll.length) (width ll + ll.length) (wdW ll) st rows) : Spt (width ll) ll.length ll (st.filter fun q => decide (q.1 < width ll)) (st.filter fun q => decide (width ll ≤ q.1)) ∧
    dropS (width ll) st = cts (width ll) (st.filter fun q => decide (width ll ≤ q.1)) ∧ (st.filter fun q => decide (q.1 < width ll)).length + (st.filter fun q => decide (width ll ≤ q.1)).length = st.length := by
  have hok := flaw_ok ef
  have hrw := flaw_rows ef
  obtain ⟨wl, we⟩ := wdW_ok ef
  have wn := wdW_len (ll := ll)
  obtain ⟨same, _, _⟩ := S.done wl (by omega)
  have ew : wdW ll = (List.range ll.length).map fun i => ll.getD i [] ++ unI i ll.length := rfl
  have part : ∀ {s : List (Nat × List Int)} {g : Nat}, s.Pairwise (fun a b => a.1 < b.1) → (s.filter fun q => decide (q.1 < g)) ++ (s.filter fun q => decide (g ≤ q.1)) = s := fun {s g} hp => by
    induction s with
    | nil => rfl
    | cons x s ih =>
      obtain ⟨h1, h2⟩ := List.pairwise_cons.mp hp
      rw [List.filter_cons, List.filter_cons]
      by_cases c : x.1 < g
      · rw [if_pos (decide_eq_true c), if_neg (by simp; omega), List.cons_append, ih h2]
      · have e1 : s.filter (fun q => decide (q.1 < g)) = [] := List.filter_eq_nil_iff.mpr fun y hy => by
          have := h1 y hy
          simp
          omega
        have e2 : s.filter (fun q => decide (g ≤ q.1)) = s := List.filter_eq_self.mpr fun y hy => by
          have := h1 y hy
          simp
          omega
        rw [if_neg (by simpa using c), if_pos (by simp; omega), e1, e2, List.nil_append]
  have ep := part (s := st) (g := width ll) S.ech.rise
  have few := S.few
  rw [wn] at few
  have hlen : (st.filter fun q => decide (q.1 < width ll)).length + (st.filter fun q => decide (width ll ≤ q.1)).length = st.length := by rw [← List.length_append, ep]
  refine ⟨⟨rfl, fun r hr => (hrw r hr).1, by rw [ep]; exact S.ech, fun q hq => of_decide_eq_true (List.mem_filter.mp hq).2, fun q hq => of_decide_eq_true (List.mem_filter.mp hq).2, by omega, fun i hi => ?_, fun q hq => ?_⟩, rfl, hlen⟩
  · rw [ep]
    refine same.1 _ ?_
    rw [ew]
    exact List.mem_map.mpr ⟨i, List.mem_range.mpr hi, rfl⟩
  · rw [ep] at hq
    rw [← ew]
    exact same.2 _ (List.mem_map.mpr ⟨q, hq, rfl⟩)
end HL

set_option pp.maxSteps 600
set_option pp.deepTerms false
namespace HL
open PySem PySem.Spec PyProof.Rows L2
open C8 (pss_cut)
theorem dp_ints {K : PySem.W.Frag} {H : Hp} : ∀ ns : List Int, DpAll K H (ns.map V.int) (ns.map PyData.int)
  | [] => .nil
  | n :: ns => .cons (.int n) (dp_ints ns)
/-! ### rows as data -/
abbrev dRow (r : List Int) : PyData := .tuple (r.map PyData.int)
theorem dp_rowK {K : PySem.W.Frag} {H : Hp} {a : Addr} {r : List Int} (h : IntsAt H a r) : Dp K H (.ref a) (dRow r) := .tup (SqT.of h) (dp_ints r)
theorem dp_rowsK {K : PySem.W.Frag} {H : Hp} : ∀ {as : List Addr} {ll : List (List Int)}, Rows H as ll → DpAll K H (as.map V.ref) (ll.map dRow)
  | [], [], _ => .nil
  | a :: as, r :: rs, h => .cons (dp_rowK h.1) (dp_rowsK h.2)
  | [], _ :: _, h => h.elim
  | _ :: _, [], h => h.elim
theorem lay_rows : ∀ ll : List (List Int), PyData.canLayAll0 (ll.map dRow) = true
  | [] => rfl
  | r :: ll => by simp [PyData.canLayAll0, PyData.canLay0, PySem.W.ke_canLayAll0, lay_rows ll]
theorem depth_rows : ∀ ll : List (List Int), PyData.depthAll (ll.map dRow) ≤ 1
  | [] => by simp [PyData.depthAll]
  | r :: ll => by
    have := depth_rows ll
    simp [PyData.depthAll, PyData.depth, PySem.W.ke_depthAll]
    omega
theorem shaped_rows (ll : List (List Int)) : SeqAt.shaped (.list (ll.map dRow)) = true := by
  have := depth_rows ll
  simp [SeqAt.shaped, PyData.canLay0, PyData.depth, lay_rows]
  omega

theorem eqv_rnil (ll : List (List Int)) : PyData.eqv (.list (ll.map dRow)) (.list []) = decide (ll = []) := by
  cases ll with
  | nil => simp [PyData.eqv, PyData.eqvAll]
  | cons n ns => simp [PyData.eqv, PyData.eqvAll]
theorem eq_nilL {K : PySem.W.Frag} {H : Hp} {l e : Addr} {ca : List Addr} {rows : List (List Int)} {Q : VK} (hl : H l = some (.lst (ca.map V.ref))) (R : Rows H ca rows) (he : H e = some (.lst [])) (q : Q (.bl (decide (rows = []))) H) : rEqD K (.ref l) (.ref e) H Q := by
  refine ⟨.list (rows.map dRow), .list [], .lst (SqL.of hl) (dp_rowsK R), .lst (SqL.of he) .nil, shaped_rows rows, by decide, ?_⟩
  rw [eqv_rnil]
  exact q
abbrev ND : List Str := ["_law_rows", "_law_total", "_law_at", "_law_left", "_law_sign", "_law_row"]
theorem scDet : FnScope ND ["_law_rows"] (defScope sDet) := ⟨rfl, rfl, rfl, by decide +kernel, rfl, by decide +kernel, by decide +kernel⟩
abbrev NC : List Str := ["_law_some", "_law_many", "_law_found", "_law_turn", "_law_longer", "_law_begun", "_law_low", "_law_at"]
theorem scCh : FnScope NC ["_law_some", "_law_many"] (defScope sChosen) := ⟨rfl, rfl, rfl, by decide +kernel, rfl, by decide +kernel, by decide +kernel⟩
abbrev NM : List Str := ["_law_numbers", "_law_found", "_law_number", "_law_other", "_law_rest"]
theorem scMe : FnScope NM ["_law_numbers"] (defScope sMeas) := ⟨rfl, rfl, rfl, by decide +kernel, rfl, by decide +kernel, by decide +kernel⟩
/-! ### the law's determinants -/
def sg (i : Nat) : Int := if i % 2 = 0 then 1 else -1
def cutR (rows : List (List Int)) (i : Nat) : List (List Int) := (rows.take i ++ rows.drop (i + 1)).map fun r => r.drop 1
def lawDet : Nat → List (List Int) → Int
  | 0, _ => 1
  | d + 1, rows => ((List.range (d + 1)).map fun i => sg i * z (rows.getD i []) 0 * lawDet d (cutR rows i)).sum
theorem lawDet1 {a : List Int} : lawDet 1 [a] = D1 a := by
  show sg 0 * z a 0 * 1 + 0 = z a 0
  have : sg 0 = 1 := rfl
  rw [this]
  omega
theorem z_drop {a : List Int} {i : Nat} : z (a.drop 1) i = z a (i + 1) := by
  unfold z
  rw [List.getD_eq_getElem?_getD, List.getElem?_drop, List.getD_eq_getElem?_getD]
  congr 2
  omega
theorem lawDet2 {a b : List Int} : lawDet 2 [a, b] = D2 a b := by
  show sg 0 * z a 0 * lawDet 1 [b.drop 1] + (sg 1 * z b 0 * lawDet 1 [a.drop 1] + 0) = z a 0 * z b 1 - z a 1 * z b 0
  rw [lawDet1, lawDet1]
  unfold D1
  rw [z_drop, z_drop]
  have e0 : sg 0 = 1 := rfl
  have e1 : sg 1 = -1 := rfl
  rw [e0, e1]
  grind
theorem lawDet3 {a b c : List Int} : lawDet 3 [a, b, c] = D3 a b c := by
  show sg 0 * z a 0 * lawDet 2 [b.drop 1, c.drop 1] + (sg 1 * z b 0 * lawDet 2 [a.drop 1, c.drop 1] + (sg 2 * z c 0 * lawDet 2 [a.drop 1, b.drop 1] + 0)) = D3 a b c
  rw [lawDet2, lawDet2, lawDet2]
  unfold D2 D3
  simp only [z_drop]
  have e0 : sg 0 = 1 := rfl
  have e1 : sg 1 = -1 := rfl
  have e2 : sg 2 = 1 := rfl
  rw [e0, e1, e2]
  grind
theorem lawDet4 {a b c d : List Int} : lawDet 4 [a, b, c, d] = D4 a b c d := by
  show sg 0 * z a 0 * lawDet 3 [b.drop 1, c.drop 1, d.drop 1] + (sg 1 * z b 0 * lawDet 3 [a.drop 1, c.drop 1, d.drop 1] + (sg 2 * z c 0 * lawDet 3 [a.drop 1, b.drop 1, d.drop 1] + (sg 3 * z d 0 * lawDet 3 [a.drop 1, b.drop 1, c.drop 1] + 0))) = D4 a b c d
  rw [lawDet3, lawDet3, lawDet3, lawDet3]
  unfold D3 D4 M4
  simp only [z_drop]
  have e0 : sg 0 = 1 := rfl
  have e1 : sg 1 = -1 := rfl
  have e2 : sg 2 = 1 := rfl
  have e3 : sg 3 = -1 := rfl
  rw [e0, e1, e2, e3]
  grind
theorem cutR_len {rows : List (List Int)} {i : Nat} (h : i < rows.length) : (cutR rows i).length = rows.length - 1 := by
  unfold cutR
  rw [List.length_map, List.length_append, List.length_take, List.length_drop]
  omega
theorem cutR_mem {rows : List (List Int)} {i : Nat} {r : List Int} (h : r ∈ cutR rows i) : ∃ s ∈ rows, r = s.drop 1 := by
  unfold cutR at h
  obtain ⟨s, hs, rfl⟩ := List.mem_map.mp h
  rcases List.mem_append.mp hs with c | c
  · exact ⟨s, List.mem_of_mem_take c, rfl⟩
  · exact ⟨s, List.mem_of_mem_drop c, rfl⟩
/-- rows of d numbers each, at most 2 to the e -/
def Sq (d e : Nat) (rows : List (List Int)) : Prop := rows.length = d ∧ ∀ r ∈ rows, r.length = d ∧ Ent (2 ^ e) r
theorem Sq.cut {d e : Nat} {rows : List (List Int)} (h : Sq (d + 1) e rows) {i : Nat} (hi : i < d + 1) : Sq d e (cutR rows i) := by
  refine ⟨by rw [cutR_len (by rw [h.1]; exact hi), h.1]; rfl, fun r hr => ?_⟩
  obtain ⟨s, hs, rfl⟩ := cutR_mem hr
  have := h.2 s hs
  exact ⟨by rw [List.length_drop, this.1]; rfl, fun x hx => this.2 x (List.mem_of_mem_drop hx)⟩
theorem abs_mul {a b A B : Int} (ha : -A ≤ a ∧ a ≤ A) (hb : -B ≤ b ∧ b ≤ B) : -(A * B) ≤ a * b ∧ a * b ≤ A * B := by
  have h1 : a.natAbs ≤ A.natAbs := by omega
  have h2 : b.natAbs ≤ B.natAbs := by omega
  have h3 : a.natAbs * b.natAbs ≤ A.natAbs * B.natAbs := Nat.mul_le_mul h1 h2
  rw [← Int.natAbs_mul, ← Int.natAbs_mul] at h3
  have h4 : 0 ≤ A * B := Int.mul_nonneg (by omega) (by omega)
  omega
theorem sg_abs {i : Nat} : -(2 : Int) ^ 0 ≤ sg i ∧ sg i ≤ (2 : Int) ^ 0 := by
  unfold sg
  split <;> decide
theorem z_ent {M : Int} {r : List Int} (h : Ent M r) (i : Nat) (hM : 0 ≤ M) : -M ≤ z r i ∧ z r i ≤ M := by
  unfold z
  rw [List.getD_eq_getElem?_getD]
  cases e : r[i]? with
  | none => exact ⟨by show -M ≤ 0; omega, hM⟩
  | some x => exact h x (List.mem_of_getElem? e)
theorem sum_abs {M : Int} : ∀ {l : List Int}, (∀ x ∈ l, -M ≤ x ∧ x ≤ M) → -((l.length : Nat) * M) ≤ l.sum ∧ l.sum ≤ (l.length : Nat) * M
  | [], _ => by simp
  | x :: l, h => by
    have h1 := h x List.mem_cons_self
    have h2 := sum_abs fun y hy => h y (List.mem_cons_of_mem _ hy)
    rw [List.sum_cons, List.length_cons]
    have e : (((l.length + 1 : Nat) : Int)) * M = (l.length : Nat) * M + M := by
      rw [Int.natCast_add, Int.add_mul]
      omega
    rw [e]
    omega
theorem p2_pos {e : Nat} : (0 : Int) < 2 ^ e := Int.pow_pos (by decide)
theorem det_abs : ∀ {d e : Nat} {rows : List (List Int)}, d ≤ 4 → Sq d e rows → -(2 : Int) ^ (d * (e + 2)) ≤ lawDet d rows ∧ lawDet d rows ≤ (2 : Int) ^ (d * (e + 2))
  | 0, e, rows, _, _ => by
    rw [Nat.zero_mul]
    show -(2 : Int) ^ 0 ≤ 1 ∧ (1 : Int) ≤ 2 ^ 0
    decide
  | d + 1, e, rows, h4, h => by
    have hM : (0 : Int) < 2 ^ e * 2 ^ (d * (e + 2)) := Int.mul_pos p2_pos p2_pos
    have key := sum_abs (M := 2 ^ e * 2 ^ (d * (e + 2))) (l := (List.range (d + 1)).map fun i => sg i * z (rows.getD i []) 0 * lawDet d (cutR rows i)) fun x hx => by
      obtain ⟨i, hi, rfl⟩ := List.mem_map.mp hx
      have hi := List.mem_range.mp hi
      have hr : rows.getD i [] ∈ rows := by
        rw [List.getD_eq_getElem?_getD, List.getElem?_eq_getElem (by rw [h.1]; exact hi)]
        exact List.getElem_mem _
      have h1 := z_ent (h.2 _ hr).2 0 (Int.le_of_lt p2_pos)
      have h2 := abs_mul (sg_abs (i := i)) h1
      have h3 := det_abs (by omega) (h.cut hi)
      have e1 : (2 : Int) ^ 0 * 2 ^ e = 2 ^ e := by rw [Int.pow_zero, Int.one_mul]
      rw [e1] at h2
      exact abs_mul h2 h3
    rw [List.length_map, List.length_range] at key
    show -(2 : Int) ^ ((d + 1) * (e + 2)) ≤ ((List.range (d + 1)).map fun i => sg i * z (rows.getD i []) 0 * lawDet d (cutR rows i)).sum ∧ ((List.range (d + 1)).map fun i => sg i * z (rows.getD i []) 0 * lawDet d (cutR rows i)).sum ≤ (2 : Int) ^ ((d + 1) * (e + 2))
    generalize ((List.range (d + 1)).map fun i => sg i * z (rows.getD i []) 0 * lawDet d (cutR rows i)).sum = S at key ⊢
    have e2 : (2 : Int) ^ ((d + 1) * (e + 2)) = 4 * (2 ^ e * 2 ^ (d * (e + 2))) := by
      rw [Nat.add_mul, Nat.one_mul, Int.pow_add, Int.pow_add, Int.mul_comm, Int.mul_comm (2 ^ e) (2 ^ 2), Int.mul_assoc]
      rfl
    rw [e2]
    generalize (2 : Int) ^ e * 2 ^ (d * (e + 2)) = M at *
    have h5 : ((d + 1 : Nat) : Int) * M ≤ 4 * M := Int.mul_le_mul_of_nonneg_right (by omega) (by omega)
    omega
theorem cut_to' {xs : List V} {n : Nat} : cutV xs none (some (n : Int)) = xs.take n := cut_to
section
variable {P : Program} {w : World} {K : PySem.W.Frag} {mg : Str → Option Value} {base : Heap}
def spDet (d : Nat) : Sp := fun vs H Q _ => ∃ (l : Addr) (ca : List Addr) (rows : List (List Int)) (e : Nat), vs = [.ref l] ∧ H l = some (.lst (ca.map V.ref)) ∧ Rows H ca rows ∧ Sq d e rows ∧ e ≤ 5000 ∧ ∀ H', Same H H' → Q (.int (lawDet d rows)) H'
theorem ok_det_leaf {f : Addr} {fd : FuncData} {k : Nat} (F : Fun K "_law_det" "_law_det" sDet f fd) (B : Bl mg) (gD : mg "_law_det" = some (.ref f)) (bD : Binds K fd ["_law_rows"] []) : FnOk P w K mg base CX0 (k + 1) f fd ["_law_rows"] (spDet 0) := by
  refine F.ok scDet (fun vs H Q E h => ?_) (fun cdv A outer s H vs Q E hr h => ?_)
  · obtain ⟨l, ca, rows, e, rfl, _⟩ := h
    rfl
  · obtain ⟨l, ca, rows, e, rfl, hl, hR, hS, he, q⟩ := h
    refine ⟨_, (pss_cons (ps_if (pt_cmpR (op_eqD hr.units) (pv 0) (pe_lst pa_nil) (nomark _)) (pss_one (ps_ret pe_int)) pss_nil) pss_never), ?_⟩
    have e0 : rows = [] := List.eq_nil_of_length_eq_zero hS.1
    refine ⟨.ref l, rfl, Nat.zero_le _, fun c nc => ?_⟩
    have s1 := same_new (o := .lst []) nc
    refine eq_nilL (s1 _ _ hl) (hR.same s1) upd_same ⟨_, rfl, ?_⟩
    rw [e0, decide_eq_true rfl]
    exact iteT (q _ s1)
theorem ok_det_step {f : Addr} {fd : FuncData} {d : Nat} (hd : d + 1 ≤ 4) (F : Fun K "_law_det" "_law_det" sDet f fd) (B : Bl mg) (gD : mg "_law_det" = some (.ref f)) (kD : PySem.W.keepIn K (.ref f) = true) (bD : Binds K fd ["_law_rows"] [])
    (GD : FnOk P w K mg base CX0 (d + 1) f fd ["_law_rows"] (spDet d)) : FnOk P w K mg base CX0 (d + 2) f fd ["_law_rows"] (spDet (d + 1)) := by
  refine F.ok scDet (fun vs H Q E h => ?_) (fun cdv A outer s H vs Q E hr h => ?_)
  · obtain ⟨l, ca, rows, e, rfl, _⟩ := h
    rfl
  · obtain ⟨l, ca, rows, e, rfl, hl, hR, hS, he, q⟩ := h
    refine ⟨_, (pss_cons (ps_if (pt_cmpR (op_eqD hr.units) (pv 0) (pe_lst pa_nil) (nomark _)) (pss_one (ps_ret pe_int)) pss_nil)
      (pss_cons (ps_set (i := 1) scDet.nd rfl (.inl rfl) pe_int)
      (pss_cons (ps_for PassesOwn.never rfl (pi_range1 (by rfl) B.range (pa_cons (pe_callB call_len_seq (by rfl) B.len PySem.boot_len (pa_cons (pv 0) pa_nil)) pa_nil)) (pg_name (i := 2) scDet.nd rfl (.inl rfl))
      (pss_cons (ps_setLc (i := 3) (own := [("_law_row", 5)]) (g := gName 5) (tt := tYes) (te := tSl (rSlA K) (tVar 5) (tPart (tC (.int 1))) tNoPart) rfl scDet.nd rfl rfl (sw_true rfl rfl rfl (by decide +kernel)) (pi_list (pe_op op_cat (pe_slice sl_list (pv 0) po_none (po_some (pv 2))) (pe_slice sl_list (pv 0) (po_some (pe_op op_add (pv 2) pe_int)) po_none)))
        (blkOk_by (own := [("_law_row", 5)]) (N := ND) (sc := defScope sDet) (by decide +kernel)) (fun _ _ _ _ _ => pg_name (i := 5) scDet.nd rfl (Or.inl rfl)) (fun _ _ _ _ _ => pts_nil)
        (fun _ _ _ _ _ => (pe_slice sl_tupA (pv 5) (po_some pe_int) po_none)))
      (pss_cut (ps_set (i := 4) scDet.nd rfl (.inl rfl) (pe_ifExp (pt_cmpR op_eq (pe_op op_mod (pv 2) pe_int) pe_int (nomark _)) pe_int (pe_un un_neg pe_int)))
      (pss_one (ps_set (i := 1) scDet.nd rfl (.inl rfl) (pe_op op_add (pv 1) (pe_op op_mulW (pe_op op_mul (pv 4) (pe_ix ix_tup (pe_ix ix_list (pv 0) (pv 2) (fun _ _ => rfl)) pe_int (fun _ _ => rfl))) (pe_call GD hr (by rfl) gD kD bD .nil pass0 (pa_cons (pv 3) pa_nil)))))))))
      (pss_one (ps_ret (pv 1)))))), ?_⟩
    have hcl := hR.len
    have hrl := hS.1
    have e0 : rows ≠ [] := fun z => by rw [z] at hrl; simp at hrl
    refine ⟨.ref l, rfl, Nat.zero_le _, fun c nc => ?_⟩
    have s1 := same_new (o := .lst []) nc
    refine eq_nilL (s1 _ _ hl) (hR.same s1) upd_same ⟨_, rfl, ?_⟩
    rw [decide_eq_false e0]
    refine iteF ?_
    refine ⟨.ref l, rfl, l, _, rfl, .inl (SqL.of (s1 _ _ hl)), ?_⟩
    rw [List.length_map, hcl, hrl]
    refine ⟨_, rfl, by omega, by omega, ?_⟩
    refine for_range (lo := 0) (n := ((d + 1 : Nat) : Int).toNat) (fun i σ H' => Same H H' ∧ ∃ y2 y3 y4, σ = [some (.ref l), some (.int (((List.range i).map fun i => sg i * z (rows.getD i []) 0 * lawDet d (cutR rows i)).sum)), y2, y3, y4, none]) ⟨s1, none, none, none, rfl⟩ (fun i σ H2 hi hI => ?_) (fun σ H2 hI => ?_)
    · obtain ⟨s2, y2, y3, y4, rfl⟩ := hI
      have hi' : i < d + 1 := by omega
      have ez : (0 : Int) + (i : Nat) = ((i : Nat) : Int) := by omega
      rw [ez]
      have hl2 := s2 _ _ hl
      have hR2 := hR.same s2
      -- the rows left
      have hli : i < ca.length := by omega
      refine ⟨.ref l, rfl, noPart ⟨.int (i : Nat), rfl, _, rfl, l, _, rfl, SqL.of hl2, fun p1 np1 => ?_⟩⟩
      rw [cut_to, ← List.map_take]
      have sp1 := same_new (o := .lst ((ca.take i).map V.ref)) np1
      refine ⟨.ref l, rfl, .int (i : Nat), rfl, _, _, rfl, rfl, _, rfl, noPart ⟨l, _, rfl, SqL.of (sp1 _ _ hl2), fun p2 np2 => ?_⟩⟩
      have e1 : ((i : Nat) : Int) + 1 = ((i + 1 : Nat) : Int) := by omega
      rw [e1, cut_from, ← List.map_drop]
      have sp2 := same_new (o := .lst ((ca.drop (i + 1)).map V.ref)) np2
      refine ⟨p1, p2, _, _, rfl, rfl, sp2 _ _ upd_same, upd_same, ?_, fun p3 np3 => ?_⟩
      · rw [List.length_map, List.length_map, List.length_take, List.length_drop]
        exact sz1000 (by omega)
      rw [← List.map_append]
      have sp3 := same_new (o := .lst ((ca.take i ++ ca.drop (i + 1)).map V.ref)) np3
      have s3 := (sp1.trans sp2).trans sp3
      have hRc : Rows _ (ca.take i ++ ca.drop (i + 1)) (rows.take i ++ rows.drop (i + 1)) := ((hR2.same s3).take i).app ((hR2.same s3).drop (i + 1))
      have h3 : upd (upd (upd H2 p1 (.lst ((ca.take i).map V.ref))) p2 (.lst ((ca.drop (i + 1)).map V.ref))) p3 (.lst ((ca.take i ++ ca.drop (i + 1)).map V.ref)) p3 = some (.lst ((ca.take i ++ ca.drop (i + 1)).map V.ref)) := upd_same
      generalize upd (upd (upd H2 p1 (.lst ((ca.take i).map V.ref))) p2 (.lst ((ca.drop (i + 1)).map V.ref))) p3 (.lst ((ca.take i ++ ca.drop (i + 1)).map V.ref)) = H3 at *
      refine ⟨p3, rfl, ⟨_, SqL.of h3⟩, fun D nD => ?_⟩
      have cl : (ca.take i ++ ca.drop (i + 1)).length = d := by
        rw [List.length_append, List.length_take, List.length_drop]
        omega
      refine lc_list (K := K) (a := p3) (xs := (ca.take i ++ ca.drop (i + 1)).map V.ref) (fun j H' => Same H3 H' ∧ ∃ da : List Addr, H' D = some (.lst (da.map V.ref)) ∧ Rows H' da (((rows.take i ++ rows.drop (i + 1)).take j).map fun r => r.drop 1)) ⟨same_new nD, [], upd_same, by rw [List.take_zero]; exact True.intro⟩ (fun j H' _ hP => SqL.of (hP.1 _ _ h3)) (fun j x H' hx ⟨sj, hca⟩ => ?_) (fun H' ⟨sj, da, hD, hRd⟩ => ?_)
      · obtain ⟨a, ha, rfl⟩ := refAt hx
        obtain ⟨r, hr1, hr2⟩ := (hRc.same sj).at ha
        have hr2 : IntsAt H' a r := hr2
        refine ⟨rfl, yes (iteT ⟨.ref a, rfl, _, rfl, noPart (slice_fromI (n := 1) hr2 fun z H7 s7 hz => ?_)⟩)⟩
        rw [List.take_add_one, hr1, List.map_append]
        exact row_more nD sj hca (by rw [List.length_map, List.length_take, ← hRc.len, cl]; omega) s7 hz
      · rw [List.length_map, hRc.len, List.take_length] at hRd
        have hRd : Rows H' da (cutR rows i) := hRd
        have s4 := (s2.trans s3).trans sj
        refine ⟨fun σ' H'' => H'' = H' ∧ σ' = [some (.ref l), some (.int (((List.range i).map fun i => sg i * z (rows.getD i []) 0 * lawDet d (cutR rows i)).sum)), some (.int (i : Nat)), some (.ref D), some (.int (sg i)), none], ?_, ?_⟩
        · refine ⟨.int (i : Nat), rfl, _, _, rfl, rfl, (by show (0 : Int) < 2; decide), rfl, _, rfl, ite2 (fun c => ?_) (fun c => ?_)⟩
          · have c' := V.int.inj (of_decide_eq_true c)
            have : sg i = 1 := by unfold sg; rw [if_pos (by omega)]
            rw [this]
            exact ⟨rfl, rfl⟩
          · have : sg i = -1 := by
              unfold sg
              rw [if_neg]
              intro z
              exact c (decide_eq_true (congrArg V.int (by omega)))
            rw [this]
            exact ⟨_, rfl, rfl, rfl⟩
        rintro σ' H'' ⟨rfl, rfl⟩
        have hR4 := hR.same s4
        obtain ⟨ai, hai⟩ : ∃ c, ca[i]? = some c := ⟨_, List.getElem?_eq_getElem hli⟩
        obtain ⟨r, hr1, hr2⟩ := hR4.at hai
        have er : rows.getD i [] = r := by rw [List.getD_eq_getElem?_getD, hr1]; rfl
        have hrr := hS.2 r (List.mem_of_getElem? hr1)
        have hz0 : (r.map V.int)[0]? = some (.int (z r 0)) := by
          rw [List.getElem?_map, getD_at (r := r) (g := 0) (by omega)]
          rfl
        have hsq := hS.cut hi'
        have hmb : -(2 : Int) ^ e ≤ z r 0 ∧ z r 0 ≤ (2 : Int) ^ e := z_ent hrr.2 0 (Int.le_of_lt p2_pos)
        refine ⟨_, rfl, .int (sg i), rfl, .ref l, rfl, .int (i : Nat), rfl, l, _, _, .ref ai, rfl, rfl, SqL.of (s4 _ _ hl), atI_nat (by rw [List.getElem?_map, hai]; rfl), ai, _, 0, .int (z r 0), rfl, rfl, SqT.of hr2, atI_nat (j := 0) hz0, sg i, _, rfl, rfl, .inl ?_, ?_⟩
        · have := sg_abs (i := i)
          have e0 : (2 : Int) ^ 0 = 1 := rfl
          rw [e0] at this
          constructor <;> omega
        refine ⟨.ref D, rfl, D, da, _, e, rfl, hD, hRd, hsq, he, fun H5 s5 => ?_⟩
        have h2 := abs_mul (sg_abs (i := i)) hmb
        have h3 := det_abs (by omega) hsq
        have ee : (2 : Int) ^ 0 * 2 ^ e = 2 ^ e := by rw [Int.pow_zero, Int.one_mul]
        rw [ee] at h2
        refine ⟨_, _, rfl, rfl, cmulW h2 h3 ?_, _, _, rfl, rfl, s4.trans s5, some (.int (i : Nat)), some (.ref D), some (.int (sg i)), ?_⟩
        · have : d * (e + 2) ≤ 3 * 5002 := Nat.mul_le_mul (by omega) (by omega)
          omega
        · rw [List.range_succ, List.map_append, List.sum_append, List.map_singleton, List.sum_singleton, er]
          rfl
    · obtain ⟨s2, y2, y3, y4, rfl⟩ := hI
      exact ⟨_, rfl, q _ s2⟩
theorem ok_det {f : Addr} {fd : FuncData} (F : Fun K "_law_det" "_law_det" sDet f fd) (B : Bl mg) (gD : mg "_law_det" = some (.ref f)) (bD : Binds K fd ["_law_rows"] []) : ∀ d : Nat, d ≤ 4 → FnOk P w K mg base CX0 (d + 1) f fd ["_law_rows"] (spDet d)
  | 0, _ => ok_det_leaf F B gD bD
  | d + 1, h => ok_det_step h F B gD F.kp bD (ok_det F B gD bD d (by omega))
/-! ### the law's choices -/
def low (b : List Nat) : Nat := match b.getLast? with
  | none => 0
  | some x => x + 1
def chosenL (n : Nat) : Nat → List (List Nat)
  | 0 => [[]]
  | m + 1 => (chosenL n m).flatMap fun b => (List.range (n - low b)).map fun j => b ++ [low b + j]
theorem ch_step {n m : Nat} {b : List Nat} : b ∈ chosenL n (m + 1) ↔ ∃ a ∈ chosenL n m, ∃ x, low a ≤ x ∧ x < n ∧ b = a ++ [x] := by
  show b ∈ (chosenL n m).flatMap _ ↔ _
  rw [List.mem_flatMap]
  constructor
  · rintro ⟨a, ha, hb⟩
    obtain ⟨j, hj, rfl⟩ := List.mem_map.mp hb
    have hj := List.mem_range.mp hj
    exact ⟨a, ha, low a + j, by omega, by omega, rfl⟩
  · rintro ⟨a, ha, x, h1, h2, rfl⟩
    refine ⟨a, ha, List.mem_map.mpr ⟨x - low a, List.mem_range.mpr (by omega), ?_⟩⟩
    show a ++ [low a + (x - low a)] = _
    congr 2
    omega
theorem ch1 {n : Nat} {b : List Nat} : b ∈ chosenL n 1 ↔ ∃ x, x < n ∧ b = [x] := by
  rw [ch_step]
  constructor
  · rintro ⟨a, ha, x, h1, h2, rfl⟩
    cases List.mem_singleton.mp ha
    exact ⟨x, h2, rfl⟩
  · rintro ⟨x, h, rfl⟩
    exact ⟨[], List.mem_singleton.mpr rfl, x, Nat.zero_le _, h, rfl⟩
theorem ch2 {n : Nat} {b : List Nat} : b ∈ chosenL n 2 ↔ ∃ x y, x < y ∧ y < n ∧ b = [x, y] := by
  rw [ch_step]
  constructor
  · rintro ⟨a, ha, y, h1, h2, rfl⟩
    obtain ⟨x, hx, rfl⟩ := ch1.mp ha
    exact ⟨x, y, h1, h2, rfl⟩
  · rintro ⟨x, y, h1, h2, rfl⟩
    exact ⟨[x], ch1.mpr ⟨x, by omega, rfl⟩, y, h1, h2, rfl⟩
theorem ch3 {n : Nat} {b : List Nat} : b ∈ chosenL n 3 ↔ ∃ x y w, x < y ∧ y < w ∧ w < n ∧ b = [x, y, w] := by
  rw [ch_step]
  constructor
  · rintro ⟨a, ha, w, h1, h2, rfl⟩
    obtain ⟨x, y, hx, hy, rfl⟩ := ch2.mp ha
    exact ⟨x, y, w, hx, h1, h2, rfl⟩
  · rintro ⟨x, y, w, h1, h2, h3, rfl⟩
    exact ⟨[x, y], ch2.mpr ⟨x, y, h1, by omega, rfl⟩, w, h2, h3, rfl⟩
theorem ch4 {n : Nat} {b : List Nat} : b ∈ chosenL n 4 ↔ ∃ x y w v, x < y ∧ y < w ∧ w < v ∧ v < n ∧ b = [x, y, w, v] := by
  rw [ch_step]
  constructor
  · rintro ⟨a, ha, v, h1, h2, rfl⟩
    obtain ⟨x, y, w, hx, hy, hw, rfl⟩ := ch3.mp ha
    exact ⟨x, y, w, v, hx, hy, h1, h2, rfl⟩
  · rintro ⟨x, y, w, v, h1, h2, h3, h4, rfl⟩
    exact ⟨[x, y, w], ch3.mpr ⟨x, y, w, h1, h2, by omega, rfl⟩, v, h3, h4, rfl⟩
theorem flat_le {α β : Type} {f : α → List β} {n : Nat} : ∀ {l : List α}, (∀ x ∈ l, (f x).length ≤ n) → (l.flatMap f).length ≤ l.length * n
  | [], _ => by simp
  | x :: l, h => by
    have h1 := h x List.mem_cons_self
    have h2 := flat_le fun y hy => h y (List.mem_cons_of_mem _ hy)
    rw [List.flatMap_cons, List.length_append, List.length_cons, Nat.add_mul]
    omega
theorem ch_len {n : Nat} (h5 : n ≤ 5) : ∀ m, (chosenL n m).length ≤ 5 ^ m
  | 0 => Nat.le_refl _
  | m + 1 => by
    have := ch_len h5 m
    have h2 : (chosenL n (m + 1)).length ≤ (chosenL n m).length * 5 := flat_le fun b _ => by
      rw [List.length_map, List.length_range]
      omega
    rw [Nat.pow_succ]
    exact Nat.le_trans h2 (Nat.mul_le_mul_right 5 this)
theorem ch_at {n : Nat} : ∀ {m : Nat} {b : List Nat}, b ∈ chosenL n m → b.length = m ∧ (∀ x ∈ b, x < n) ∧ low b ≤ n
  | 0, b, h => by
    cases List.mem_singleton.mp h
    exact ⟨rfl, (fun x hx => by cases hx), Nat.zero_le _⟩
  | m + 1, b, h => by
    obtain ⟨a, ha, x, h1, h2, rfl⟩ := ch_step.mp h
    obtain ⟨i1, i2, _⟩ := ch_at ha
    refine ⟨by rw [List.length_append, i1]; rfl, fun y hy => ?_, ?_⟩
    · rcases List.mem_append.mp hy with c | c
      · exact i2 y c
      · rw [List.mem_singleton.mp c]; exact h2
    · unfold low
      rw [List.getLast?_append]
      show (x + 1) ≤ n
      omega
/-- lists of places in the heap -/
def LL (G : Addr → Prop) (H : Hp) : List Addr → List (List Nat) → Prop
  | [], [] => True
  | a :: as, b :: bs => (G a ∧ H a = some (.lst (b.map fun n : Nat => V.int (n : Int)))) ∧ LL G H as bs
  | _, _ => False
theorem LL.len {G : Addr → Prop} {H : Hp} : ∀ {as : List Addr} {bs : List (List Nat)}, LL G H as bs → as.length = bs.length
  | [], [], _ => rfl
  | _ :: _, _ :: _, h => congrArg (· + 1) (LL.len h.2)
  | [], _ :: _, h => h.elim
  | _ :: _, [], h => h.elim
theorem LL.imp {G G' : Addr → Prop} {H H' : Hp} : ∀ {as : List Addr} {bs : List (List Nat)}, LL G H as bs → (∀ a x, G a → H a = some (.lst x) → G' a ∧ H' a = some (.lst x)) → LL G' H' as bs
  | [], [], _, _ => True.intro
  | _ :: _, _ :: _, h, f => ⟨f _ _ h.1.1 h.1.2, LL.imp h.2 f⟩
  | [], _ :: _, h, _ => h.elim
  | _ :: _, [], h, _ => h.elim
theorem LL.same {G : Addr → Prop} {H H' : Hp} {as : List Addr} {bs : List (List Nat)} (h : LL G H as bs) (s : Same H H') : LL G H' as bs := h.imp fun a x g e => ⟨g, s _ _ e⟩
theorem LL.app {G : Addr → Prop} {H : Hp} : ∀ {as cs : List Addr} {bs ds : List (List Nat)}, LL G H as bs → LL G H cs ds → LL G H (as ++ cs) (bs ++ ds)
  | [], _, [], _, _, h => h
  | _ :: _, _, _ :: _, _, h, k => ⟨h.1, LL.app h.2 k⟩
  | [], _, _ :: _, _, h, _ => h.elim
  | _ :: _, _, [], _, h, _ => h.elim
theorem LL.at {G : Addr → Prop} {H : Hp} : ∀ {as : List Addr} {bs : List (List Nat)} {i : Nat} {a : Addr}, LL G H as bs → as[i]? = some a → ∃ b, bs[i]? = some b ∧ G a ∧ H a = some (.lst (b.map fun n : Nat => V.int (n : Int)))
  | a :: _, b :: _, 0, _, h, e => by
    cases e
    exact ⟨b, rfl, h.1.1, h.1.2⟩
  | _ :: _, _ :: _, i + 1, _, h, e => LL.at (i := i) h.2 e
  | [], _, _, _, _, e => by cases e
  | _ :: _, [], _, _, h, _ => h.elim
theorem back_none {H H' : Hp} {p : Addr} (s : Same H H') (h : H' p = none) : H p = none := by
  cases e : H p with
  | none => rfl
  | some o => rw [s _ _ e] at h; cases h
theorem dp_nats {K : PySem.W.Frag} {H : Hp} : ∀ ns : List Nat, DpAll K H (ns.map fun n : Nat => V.int (n : Int)) (ns.map fun n : Nat => PyData.int (n : Int))
  | [] => .nil
  | n :: ns => .cons (.int _) (dp_nats ns)
theorem shaped_nats (r : List Nat) : SeqAt.shaped (.list (r.map fun n : Nat => PyData.int (n : Int))) = true := by
  have e : (r.map fun n : Nat => PyData.int (n : Int)) = (r.map fun n : Nat => (n : Int)).map PyData.int := by rw [List.map_map]; rfl
  rw [e]
  generalize (r.map fun n : Nat => (n : Int)) = xs
  simp [SeqAt.shaped, PyData.canLay0, PyData.depth, PySem.W.ke_canLayAll0, PySem.W.ke_depthAll]
theorem eq_nilN {K : PySem.W.Frag} {H : Hp} {l e : Addr} {b : List Nat} {Q : VK} (hl : H l = some (.lst (b.map fun n : Nat => V.int (n : Int)))) (he : H e = some (.lst [])) (q : Q (.bl (decide (b = []))) H) : rEqD K (.ref l) (.ref e) H Q := by
  refine ⟨.list (b.map fun n : Nat => PyData.int (n : Int)), .list [], .lst (SqL.of hl) (dp_nats b), .lst (SqL.of he) .nil, shaped_nats b, by decide, ?_⟩
  have ee : PyData.eqv (.list (b.map fun n : Nat => PyData.int (n : Int))) (.list []) = decide (b = []) := by
    cases b with
    | nil => simp [PyData.eqv, PyData.eqvAll]
    | cons n ns => simp [PyData.eqv, PyData.eqvAll]
  rw [ee]
  exact q
def spChosen : Sp := fun vs H Q _ => ∃ n m : Nat, vs = [.int n, .int m] ∧ n ≤ 5 ∧ m ≤ 5 ∧ ∀ (H' : Hp) (l : Addr) (cs : List Addr), Same H H' → H l = none → H' l = some (.lst (cs.map V.ref)) → LL (fun a => H a = none) H' cs (chosenL n m) → Q (.ref l) H'
theorem ok_chosen {f : Addr} {fd : FuncData} {k : Nat} (F : Fun K "_law_chosen" "_law_chosen" sChosen f fd) (B : Bl mg) : FnOk P w K mg base CX0 (k + 1) f fd ["_law_some", "_law_many"] spChosen := by
  refine F.ok scCh (fun vs H Q E h => ?_) (fun cdv A outer s H vs Q E hr h => ?_)
  · obtain ⟨n, m, rfl, _⟩ := h
    rfl
  · obtain ⟨n, m, rfl, n5, m5, q⟩ := h
    refine ⟨_, (pss_cons (ps_set (i := 2) scCh.nd rfl (.inl rfl) (pe_lst (pa_cons (pe_lst pa_nil) pa_nil)))
      (pss_cons (ps_for PassesOwn.never rfl (pi_range1 (by rfl) B.range (pa_cons (pv 1) pa_nil)) (pg_name (i := 3) scCh.nd rfl (.inl rfl))
      (pss_cons (ps_set (i := 4) scCh.nd rfl (.inl rfl) (pe_lst pa_nil))
      (pss_cons (ps_for PassesOwn.never rfl (pi_list (pv 2)) (pg_name (i := 5) scCh.nd rfl (.inr rfl))
      (pss_cut (ps_set (i := 6) scCh.nd rfl (.inl rfl) (pe_ifExp (pt_cmpR (op_eqD hr.units) (pv 5) (pe_lst pa_nil) (nomark _)) pe_int (pe_op op_add (pe_ix ix_list (pv 5) (pe_un un_neg pe_int) (fun _ _ => rfl)) pe_int)))
      (pss_one (ps_expr (pe_bm PySem.F.plainAttrs_list PySem.F.slot_list_extend PySem.F.type_list_extend mt_extend (pv 4) (pa_cons (pe_lc (own := [("_law_at", 7)]) (g := gName 7) (tt := tYes) rfl scCh.nd (pi_range2 (by rfl) B.range (pa_cons (pv 6) (pa_cons (pv 0) pa_nil)))
        (blkOk_by (own := [("_law_at", 7)]) (N := NC) (sc := defScope sChosen) (by decide +kernel)) (fun _ _ _ _ _ => pg_name (i := 7) scCh.nd rfl (Or.inl rfl)) (fun _ _ _ _ _ => pts_nil)
        (fun _ _ _ _ _ => (pe_op op_cat (pv 5) (pe_lst (pa_cons (pv 7) pa_nil))))) pa_nil))))))
      (pss_one (ps_set (i := 2) scCh.nd rfl (.inl rfl) (pv 4))))))
      (pss_one (ps_ret (pv 2))))), ?_⟩
    refine ⟨Nat.zero_le _, fun t0 nt0 => ⟨sz_1 _, fun l0 nl0 => ?_⟩⟩
    have st0 := same_new (o := .lst []) nt0
    have s0 := st0.trans (same_new (o := .lst [.ref t0]) nl0)
    refine ⟨.int (m : Int), rfl, (m : Int), rfl, by omega, by omega, ?_⟩
    refine for_range (lo := 0) (n := ((m : Nat) : Int).toNat) (fun i σ H2 => Same H H2 ∧ ∃ l y3 y4 y5 y6, σ = [some (.int (n : Int)), some (.int (m : Int)), some (.ref l), y3, y4, y5, y6, none] ∧ H l = none ∧ ∃ cs : List Addr, H2 l = some (.lst (cs.map V.ref)) ∧ LL (fun a => H a = none) H2 cs (chosenL n i))
      ⟨s0, l0, none, none, none, none, rfl, back_none st0 nl0, [t0], upd_same, ⟨nt0, same_new (o := .lst [.ref t0]) nl0 _ _ upd_same⟩, True.intro⟩ (fun i σ H2 hi ⟨s2, l, y3, y4, y5, y6, eσ, nl, bs, hl, hR⟩ => ?_) (fun σ H2 ⟨s2, l, y3, y4, y5, y6, eσ, nl, bs, hl, hR⟩ => ?_)
    · subst eσ
      have him : i < m := by omega
      have hbl := hR.len
      have few := ch_len n5 i
      have few2 : 5 ^ i ≤ 5 ^ 5 := Nat.pow_le_pow_right (by decide) (by omega)
      have e55 : (5 : Nat) ^ 5 = 3125 := rfl
      refine ⟨Nat.zero_le _, fun D nD => ?_⟩
      have sD := same_new (o := .lst []) nD
      have nDH := back_none s2 nD
      let st : List Nat → List (List Nat) := fun b => (List.range (n - low b)).map fun j => b ++ [low b + j]
      let G : Nat → List (List Nat) := fun a => ((chosenL n i).take a).flatMap st
      have stl : ∀ b, (st b).length ≤ 5 := fun b => by
        show ((List.range (n - low b)).map _).length ≤ 5
        rw [List.length_map, List.length_range]
        omega
      have hG : ∀ a, (G a).length ≤ 3125 * 5 := fun a => by
        refine Nat.le_trans (flat_le fun b _ => stl b) (Nat.mul_le_mul_right 5 ?_)
        rw [List.length_take]
        omega
      refine ⟨.ref l, rfl, l, rfl, ⟨_, SqL.of (sD _ _ hl)⟩, ?_⟩
      refine for_list (K := K) (a := l) (xs := bs.map V.ref) (fun a σ' H' => Same H2 H' ∧ (∃ y3 y5 y6, σ' = [some (.int (n : Int)), some (.int (m : Int)), some (.ref l), y3, some (.ref D), y5, y6, none]) ∧ ∃ ds : List Addr, H' D = some (.lst (ds.map V.ref)) ∧ LL (fun a => H a = none ∧ a ≠ D) H' ds (G a)) ⟨sD, ⟨_, _, _, rfl⟩, [], upd_same, True.intro⟩ (fun a σ' H' _ hI => SqL.of (hI.1 _ _ hl)) (fun a x σ' H' hxa hI => ?_) (fun σ' H' hI => ?_)
      · obtain ⟨sm, ⟨y3', y5', y6', rfl⟩, ds, hds, hdr⟩ := hI
        obtain ⟨cb, hcb, rfl⟩ := refAt hxa
        obtain ⟨b, hc1, hcn, hc2⟩ := (hR.same sm).at hcb
        obtain ⟨hb1, hb2, hb3⟩ := ch_at (List.mem_of_getElem? hc1)
        refine ⟨fun σ2 H3 => Same H' H3 ∧ σ2 = [some (.int (n : Int)), some (.int (m : Int)), some (.ref l), y3', some (.ref D), some (.ref cb), some (.int (low b : Int)), none], ?_, ?_⟩
        · refine ⟨.ref cb, rfl, Nat.zero_le _, fun e ne => ?_⟩
          have se := same_new (o := .lst []) ne
          refine eq_nilN (se _ _ hc2) upd_same ⟨_, rfl, ite2 (fun c => ?_) (fun c => ?_)⟩
          · have hb0 := of_decide_eq_true c
            subst hb0
            exact ⟨se, rfl⟩
          · have hb0 : b ≠ [] := fun z => c (decide_eq_true z)
            have hz : ∃ (c : List Nat) (x : Nat), b = c ++ [x] := ⟨b.dropLast, b.getLast hb0, (List.dropLast_concat_getLast hb0).symm⟩
            obtain ⟨c', x, rfl⟩ := hz
            have el : low (c' ++ [x]) = x + 1 := by
              unfold low
              rw [List.getLast?_append]
              rfl
            rw [el]
            have ha : atI ((c' ++ [x]).map fun n : Nat => V.int (n : Int)) (-1) = some (.int (x : Int)) := by
              rw [List.map_append]
              exact atI_last _ _
            refine ⟨.ref cb, rfl, _, rfl, cb, _, _, .int (x : Int), rfl, rfl, SqL.of (se _ _ hc2), ha, _, _, rfl, rfl, se, ?_⟩
            show [_, _, _, _, _, _, some (V.int ((x : Int) + 1)), _] = _
            rw [show ((x : Int) + 1) = ((x + 1 : Nat) : Int) by omega]
        rintro σ2 H3 ⟨s3, rfl⟩
        have sm3 := sm.trans s3
        have hds3 := s3 _ _ hds
        have hc3 := s3 _ _ hc2
        have hdr3 := hdr.same s3
        have hgn := hG (a + 1)
        refine ⟨.ref D, rfl, .inl ⟨rfl, _, SqL.of hds3⟩, .int (low b : Int), rfl, .int (n : Int), rfl, (low b : Int), (n : Int), rfl, ⟨by omega, by omega, by omega, by omega⟩, fun D2 nD2 => ?_⟩
        have en : ((n : Int) - (low b : Int)).toNat = n - low b := by omega
        rw [en]
        have nD2H := back_none (s2.trans sm3) nD2
        have D2D : D2 ≠ D := fun z => by rw [z, hds3] at nD2; cases nD2
        refine lc_range (lo := (low b : Int)) (n := n - low b) (fun j H4 => Same H3 H4 ∧ ∃ es : List Addr, H4 D2 = some (.lst (es.map V.ref)) ∧ LL (fun a => (H a = none ∧ a ≠ D) ∧ a ≠ D2) H4 es ((List.range j).map fun j => b ++ [low b + j])) ⟨same_new nD2, [], upd_same, True.intro⟩ (fun j H4 hj ⟨s4, es, he, heR⟩ => ?_) (fun H4 ⟨s4, es, he, heR⟩ => ?_)
        · have ez : (low b : Int) + (j : Nat) = ((low b + j : Nat) : Int) := by omega
          rw [ez]
          have hel := heR.len
          rw [List.length_map, List.length_range] at hel
          refine ⟨rfl, yes (iteT ?_)⟩
          refine ⟨.ref cb, rfl, .int ((low b + j : Nat) : Int), rfl, nilA ⟨sz_1 _, fun c nc => ?_⟩⟩
          have sc := same_new (o := .lst [.int ((low b + j : Nat) : Int)]) nc
          refine ⟨cb, c, _, _, rfl, rfl, sc _ _ (s4 _ _ hc3), upd_same, ?_, fun p np => ?_⟩
          · rw [List.length_map, hb1]
            exact sz1000 (by show i + 1 ≤ 1000; omega)
          have sp := same_new (o := .lst ((b.map fun n : Nat => V.int (n : Int)) ++ [.int ((low b + j : Nat) : Int)])) np
          have s48 := sc.trans sp
          have he8 := s48 _ _ he
          have np4 := back_none sc np
          have nD : p ≠ D := fun z => by rw [z, s4 _ _ hds3] at np4; cases np4
          have nD2' : p ≠ D2 := fun z => by rw [z, he] at np4; cases np4
          refine ⟨_, he8, ?_, same_late (s4.trans s48) nD2, es ++ [p], ?_, ?_⟩
          · rw [List.length_map]
            exact small1000 (by omega)
          · rw [upd_same, List.map_append]
            rfl
          · rw [List.range_succ, List.map_append]
            refine LL.app ((heR.same s48).imp fun a x g e => ⟨g, by rw [upd_ne g.2]; exact e⟩) ⟨⟨⟨⟨back_none (s2.trans (sm3.trans s4)) np4, nD⟩, nD2'⟩, ?_⟩, True.intro⟩
            rw [upd_ne nD2', upd_same, List.map_append]
            rfl
        · have e2 : G (a + 1) = G a ++ st b := by
            show ((chosenL n i).take (a + 1)).flatMap _ = ((chosenL n i).take a).flatMap _ ++ _
            rw [List.take_add_one, hc1, List.flatMap_append]
            simp
          have hds4 := s4 _ _ hds3
          have hel := heR.len
          have hdl := hdr.len
          have hg1 := hG (a + 1)
          rw [e2, List.length_append] at hg1
          have hst : (st b).length = es.length := hel.symm
          refine ⟨D, D2, _, _, rfl, rfl, hds4, he, ?_, same_late (sm3.trans s4) nD, ⟨_, _, _, rfl⟩, ds ++ es, ?_, ?_⟩
          · rw [List.length_map, List.length_map]
            exact Nat.le_trans (show _ ≤ 100000 by omega) (by decide)
          · rw [upd_same, List.map_append]
          · rw [e2]
            exact LL.app ((hdr3.same s4).imp fun a x g e => ⟨g, by rw [upd_ne g.2]; exact e⟩) (heR.imp fun a x g e => ⟨g.1, by rw [upd_ne g.1.2]; exact e⟩)
      · obtain ⟨sm, ⟨y3', y5', y6', rfl⟩, ds, hds, hdr⟩ := hI
        rw [List.length_map] at hdr
        have e2 : G bs.length = chosenL n (i + 1) := by
          show ((chosenL n i).take bs.length).flatMap _ = (chosenL n i).flatMap _
          rw [List.take_of_length_le (by omega)]
        rw [e2] at hdr
        exact ⟨.ref D, rfl, s2.trans sm, D, _, _, _, _, rfl, nDH, ds, hds, hdr.imp fun a x g e => ⟨g.1, e⟩⟩
    · subst eσ
      exact ⟨.ref l, rfl, q H2 l bs s2 nl hl hR⟩
/-! ### the law's measure -/
def spMeas : Sp := fun vs H Q _ => ∃ (l : Addr) (xs : List Int), vs = [.ref l] ∧ H l = some (.lst (xs.map V.int)) ∧ ∀ g : Int, 0 ≤ g → (∀ x ∈ xs, g ∣ x) → (∀ d : Int, (∀ x ∈ xs, d ∣ x) → d ∣ g) → Q (.int g) H
theorem ok_meas {f : Addr} {fd : FuncData} {k : Nat} (F : Fun K "_law_measure" "_law_measure" sMeas f fd) (B : Bl mg) (ma : mg "abs" = none) : FnOk P w K mg base CX0 (k + 1) f fd ["_law_numbers"] spMeas := by
  refine F.ok scMe (fun vs H Q E h => ?_) (fun cdv A outer s H vs Q E hr h => ?_)
  · obtain ⟨l, xs, rfl, _⟩ := h
    rfl
  · obtain ⟨l, xs, rfl, hl, q⟩ := h
    refine ⟨_, (pss_cons (ps_set (i := 1) scMe.nd rfl (.inl rfl) pe_int)
      (pss_cons (ps_for PassesOwn.never rfl (pi_list (pv 0)) (pg_name (i := 2) scMe.nd rfl (.inl rfl))
      (pss_cons (ps_set (i := 3) scMe.nd rfl (.inl rfl) (pe_callB call_abs (by rfl) ma (by decide +kernel) (pa_cons (pv 2) pa_nil)))
      (pss_one (ps_while PassesOwn.never (pt_cmpR op_gt (pv 3) pe_int (nomark _))
      (pss_cons (ps_set (i := 4) scMe.nd rfl (.inl rfl) (pe_op op_mod (pv 1) (pv 3)))
      (pss_cons (ps_set (i := 1) scMe.nd rfl (.inl rfl) (pv 3))
      (pss_one (ps_set (i := 3) scMe.nd rfl (.inl rfl) (pv 4)))))))))
      (pss_one (ps_ret (pv 1))))), ?_⟩
    refine ⟨.ref l, rfl, l, rfl, ⟨_, SqL.of hl⟩, ?_⟩
    refine for_list (K := K) (a := l) (xs := xs.map V.int) (fun i σ H' => H' = H ∧ ∃ (g : Int) (y2 y3 y4 : Option V), σ = [some (.ref l), some (.int g), y2, y3, y4] ∧ 0 ≤ g ∧ (∀ x ∈ xs.take i, g ∣ x) ∧ ∀ d : Int, (∀ x ∈ xs.take i, d ∣ x) → d ∣ g)
      ⟨rfl, 0, none, none, none, rfl, Int.le_refl _, (fun x hx => by rw [List.take_zero] at hx; cases hx), fun d _ => Int.dvd_zero d⟩ (fun i σ H' _ hI => by rw [hI.1]; exact SqL.of hl) (fun i x σ H' hx hI => ?_) (fun σ H' hI => ?_)
    · obtain ⟨rfl, g, y2, y3, y4, rfl, g0, hg, hu⟩ := hI
      obtain ⟨n, hn, rfl⟩ : ∃ n, xs[i]? = some n ∧ x = V.int n := by
        rw [List.getElem?_map] at hx
        cases e : xs[i]? with
        | none => rw [e] at hx; cases hx
        | some n => rw [e] at hx; exact ⟨n, rfl, (Option.some.inj hx).symm⟩
      have tk : xs.take (i + 1) = xs.take i ++ [n] := by rw [List.take_add_one, hn]; rfl
      refine ⟨.int n, rfl, n, rfl, ?_⟩
      have key : ∀ o : Int, 0 ≤ o → (o = n ∨ o = -n) → ∃ (a b : Int) (y4 : Option V), (some (V.int g) = some (V.int a) ∧ some (V.int o) = some (V.int b)) ∧ 0 ≤ a ∧ 0 ≤ b ∧ (∀ d : Int, d ∣ a → d ∣ b → d ∣ g ∧ d ∣ n) ∧ ∀ d : Int, d ∣ g → d ∣ n → d ∣ a ∧ d ∣ b := fun o o0 ho => ⟨g, o, none, ⟨rfl, rfl⟩, g0, o0, (fun d d1 d2 => ⟨d1, by rcases ho with e | e <;> rw [e] at d2; exact d2; exact Int.dvd_neg.mp d2⟩), fun d d1 d2 => ⟨d1, by rcases ho with e | e <;> rw [e]; exact d2; exact Int.dvd_neg.mpr d2⟩⟩
      have ho : (0 : Int) ≤ (if n < 0 then -n else n) ∧ ((if n < 0 then -n else n) = n ∨ (if n < 0 then -n else n) = -n) := by
        split
        · exact ⟨by omega, .inr rfl⟩
        · exact ⟨by omega, .inl rfl⟩
      generalize (if n < 0 then -n else n) = o at ho ⊢
      refine while_by (fun σ' H'' => H'' = H' ∧ ∃ (a b : Int) (y4 : Option V), σ' = [some (.ref l), some (.int a), some (.int n), some (.int b), y4] ∧ 0 ≤ a ∧ 0 ≤ b ∧ (∀ d : Int, d ∣ a → d ∣ b → d ∣ g ∧ d ∣ n) ∧ ∀ d : Int, d ∣ g → d ∣ n → d ∣ a ∧ d ∣ b) (fun σ _ => match σ with | [_, _, _, some (.int b), _] => b.toNat | _ => 0) ?_ ?_ ?_
      · obtain ⟨a, b, _, ⟨e1, e2⟩, k1, k2, k3, k4⟩ := key o ho.1 ho.2
        cases e1
        cases e2
        exact ⟨rfl, g, o, y4, rfl, k1, k2, k3, k4⟩
      · rintro σ H'' ⟨rfl, a, b, y4, rfl, a0, b0, k3, k4⟩
        refine ⟨.int b, rfl, b, 0, rfl, rfl, _, rfl, ite2 (fun c1 => ?_) (fun c1 => ?_)⟩
        · have c1' : b > 0 := of_decide_eq_true c1
          refine ⟨.int a, rfl, .int b, rfl, a, b, rfl, rfl, c1', .int b, rfl, .int (a % b), rfl, ⟨rfl, b, a % b, _, rfl, b0, Int.emod_nonneg a (by omega), fun d d1 d2 => ?_, fun d d1 d2 => ?_⟩, ?_⟩
          · refine k3 d ?_ d1
            have e := Int.mul_ediv_add_emod a b
            rw [← e]
            exact Int.dvd_add (Int.dvd_mul_of_dvd_left d1) d2
          · obtain ⟨h1, h2⟩ := k4 d d1 d2
            exact ⟨h2, by rw [Int.emod_def]; exact Int.dvd_sub h1 (Int.dvd_mul_of_dvd_left h2)⟩
          · show (a % b).toNat < b.toNat
            have := Int.emod_lt_of_pos a c1'
            have := Int.emod_nonneg a (show b ≠ 0 by omega)
            omega
        · have c1' : ¬ b > 0 := fun z => c1 (decide_eq_true z)
          have b0' : b = 0 := by omega
          subst b0'
          refine ⟨rfl, a, _, _, _, rfl, a0, fun y hy => ?_, fun d hd => ?_⟩
          · obtain ⟨h1, h2⟩ := k3 a (Int.dvd_refl a) (Int.dvd_zero a)
            rw [tk] at hy
            rcases List.mem_append.mp hy with c | c
            · exact Int.dvd_trans h1 (hg y c)
            · rw [List.mem_singleton.mp c]; exact h2
          · rw [tk] at hd
            exact (k4 d (hu d fun x hx => hd x (List.mem_append_left _ hx)) (hd n (List.mem_append_right _ (List.mem_singleton.mpr rfl)))).1
      · rintro σ H'' Q1 Q2 hQ ⟨v, hv, i, j, e3, e4, b, e5, h⟩
        exact ⟨v, hv, i, j, e3, e4, b, e5, hQ _ _ h⟩
    · obtain ⟨rfl, g, y2, y3, y4, rfl, g0, hg, hu⟩ := hI
      rw [List.length_map, List.take_length] at hg hu
      exact ⟨_, rfl, q g g0 hg hu⟩
end
end HL

set_option pp.maxSteps 600
set_option pp.deepTerms false
namespace HL
open PySem PySem.Spec PyProof.Rows L2
open C8 (pss_cut)
abbrev NIS : List Str := ["_law_lot_here", "_law_row", "_law_number"]
theorem scIS : FnScope NIS ["_law_lot_here", "_law_row"] (defScope sLIsSwap) := ⟨rfl, rfl, rfl, by decide +kernel, rfl, by decide +kernel, by decide +kernel⟩
abbrev NMi : List Str := ["_law_rows", "_law_many", "_law_found", "_law_wide", "_law_some", "_law_spots", "_law_at", "_law_spot"]
theorem scMi : FnScope NMi ["_law_rows", "_law_many"] (defScope sMinors) := ⟨rfl, rfl, rfl, by decide +kernel, rfl, by decide +kernel, by decide +kernel⟩
abbrev scMiO : Scope := { kind := .function, names := [(".0", .local), ("_law_at", .cell), ("tuple", .globalImplicit), ("_law_rows", .cell), ("_law_spots", .cell)], isGenerator := false, isCoroutine := false }
theorem row_eqv : ∀ {r : List Int}, PyData.eqv (dRow r) (dRow (List.replicate r.length 0)) = zeroB r := by
  intro r
  have h : ∀ r : List Int, PyData.eqvAll (r.map PyData.int) ((List.replicate r.length (0 : Int)).map PyData.int) = zeroB r := by
    intro r
    induction r with
    | nil => rfl
    | cons x r ih =>
      unfold zeroB at ih ⊢
      rw [List.length_cons, List.replicate_succ, List.map_cons, List.map_cons, List.all_cons, ← ih]
      simp [PyData.eqvAll, PyData.eqv]
      rfl
  show PyData.eqv (.tuple _) (.tuple _) = _
  rw [← h r]
  simp [PyData.eqv]
theorem shaped_row (r : List Int) : SeqAt.shaped (dRow r) = true := by
  simp [SeqAt.shaped, PyData.canLay0, PyData.depth, PySem.W.ke_canLayAll0, PySem.W.ke_depthAll]
section
variable {P : Program} {w : World} {K : PySem.W.Frag} {mg : Str → Option Value} {base : Heap}
def spDetA : Sp := fun vs H Q E => ∃ d, d ≤ 4 ∧ spDet d vs H Q E
theorem ok_detA {f : Addr} {fd : FuncData} (F : Fun K "_law_det" "_law_det" sDet f fd) (B : Bl mg) (gD : mg "_law_det" = some (.ref f)) (bD : Binds K fd ["_law_rows"] []) : FnOk P w K mg base CX0 5 f fd ["_law_rows"] spDetA where
  len := fun vs H Q E ⟨d, h4, q⟩ => (ok_det F B gD bD d h4 : FnOk P w K mg base CX0 (d + 1) f fd ["_law_rows"] (spDet d)).len vs H Q E q
  run := fun A outer s H args us vs Q E hr e0 hb r ⟨d, h4, q⟩ => (ok_det F B gD bD d h4).run A outer s H args us vs Q E (hr.mono (by omega)) e0 hb r q
/-- minors of m rows and m columns -/
def minorsL (rows : List (List Int)) (k wd m : Nat) : List Int := (chosenL k m).flatMap fun s => (chosenL wd m).map fun t => lawDet m (s.map fun i => selc t (rows.getD i []))
def LoT (H : Hp) (p : Addr) (xs : List V) : Prop := H p = some (.lst xs) ∨ H p = some (.tup xs)
theorem LoT.ix {H : Hp} {p : Addr} {xs : List V} {i : Nat} {v : V} {Q : VK} (h : LoT H p xs) (hi : xs[i]? = some v) (q : Q v H) : rIx K (.ref p) (.int (i : Nat)) H Q := by
  rcases h with h | h
  · exact .inl ⟨p, xs, _, _, rfl, rfl, SqL.of h, atI_nat hi, q⟩
  · exact .inr (.inl ⟨p, xs, _, _, rfl, rfl, SqT.of h, atI_nat hi, q⟩)
theorem LoT.seq {H : Hp} {p : Addr} {xs : List V} (h : LoT H p xs) : SqL K H p xs ∨ SqT K H p xs := h.imp SqL.of SqT.of
theorem LoT.kp {f : Addr} {H H' : Hp} {p : Addr} {xs : List V} (h : LoT H p xs) (k : Kp f H H') (n : p ≠ f) : LoT H' p xs := h.imp (k _ _ n) (k _ _ n)
theorem rows_kpl {f : Addr} {ys : List V} {H H' : Hp} {as : List Addr} {ll : List (List Int)} (h : Rows H as ll) (k : Kp f H H') (e : H f = some (.lst ys)) : Rows H' as ll := h.mono fun a xs e2 => k _ _ (fun z => by rw [z, e] at e2; cases e2) e2
theorem sq_of {rows : List (List Int)} {k wd m e : Nat} (hk : rows.length = k) (hw : ∀ r ∈ rows, r.length = wd ∧ Ent (2 ^ e) r) {s t : List Nat} (hs : s ∈ chosenL k m) (ht : t ∈ chosenL wd m) : Sq m e (s.map fun i => selc t (rows.getD i [])) := by
  obtain ⟨s1, s2, _⟩ := ch_at hs
  obtain ⟨t1, t2, _⟩ := ch_at ht
  refine ⟨by rw [List.length_map, s1], fun r hr => ?_⟩
  obtain ⟨i, hi, rfl⟩ := List.mem_map.mp hr
  have hi := s2 i hi
  have hm : rows.getD i [] ∈ rows := by
    rw [List.getD_eq_getElem?_getD, List.getElem?_eq_getElem (by omega)]
    exact List.getElem_mem _
  refine ⟨by rw [selc_len, t1], fun x hx => ?_⟩
  unfold selc at hx
  obtain ⟨j, hj, rfl⟩ := List.mem_map.mp hx
  exact z_ent (hw _ hm).2 j (Int.le_of_lt p2_pos)
def spMinors : Sp := fun vs H Q _ => ∃ (p : Addr) (ca : List Addr) (rows : List (List Int)) (wd m e : Nat), vs = [.ref p, .int m] ∧ LoT H p (ca.map V.ref) ∧ Rows H ca rows ∧ 1 ≤ rows.length ∧ rows.length ≤ 5 ∧ wd ≤ 5 ∧ m ≤ 4 ∧ e ≤ 5000 ∧ (∀ r ∈ rows, r.length = wd ∧ Ent (2 ^ e) r) ∧
  ∀ H' l, Same H H' → H' l = some (.lst ((minorsL rows rows.length wd m).map V.int)) → Q (.ref l) H'
theorem ok_minors {f : Addr} {fd : FuncData} (F : Fun K "_law_minors" "_law_minors" sMinors f fd) (B : Bl mg) (CC : Cal P w K mg base CX0 1 "_law_chosen" ["_law_some", "_law_many"] spChosen) (CD : Cal P w K mg base CX0 5 "_law_det" ["_law_rows"] spDetA) : FnOk P w K mg base CX0 6 f fd ["_law_rows", "_law_many"] spMinors := by
  obtain ⟨fC, fdC, GC, gC, kC, bC⟩ := CC.ex
  obtain ⟨fD, fdD, GD, gD, kD, bD⟩ := CD.ex
  refine F.ok scMi (fun vs H Q E h => ?_) (fun cdv A outer s H vs Q E hr h => ?_)
  · obtain ⟨p, ca, rows, wd, m, e, rfl, _⟩ := h
    rfl
  · obtain ⟨p, ca, rows, wd, m, e, rfl, hp, hR, hk1, hk5, hw5, hm4, he, hw, q⟩ := h
    refine ⟨_, (pss_cons (ps_set (i := 2) scMi.nd rfl (.inl rfl) (pe_lst pa_nil))
      (pss_cons (ps_set (i := 3) scMi.nd rfl (.inl rfl) (pe_callB call_len_seq (by rfl) B.len PySem.boot_len (pa_cons (pe_ix (r := rIx K) ix_seq (pv 0) pe_int (fun _ _ => rfl)) pa_nil)))
      (pss_cons (ps_for PassesOwn.never rfl (pi_list (pe_call GC (hr.mono (by decide)) (by rfl) gC kC bC .nil pass0 (pa_cons (pe_callB call_len_seq (by rfl) B.len PySem.boot_len (pa_cons (pv 0) pa_nil)) (pa_cons (pv 1) pa_nil)))) (pg_name (i := 4) scMi.nd rfl (.inl rfl))
      (pss_one (ps_for PassesOwn.never rfl (pi_list (pe_call GC (hr.mono (by decide)) (by rfl) gC kC bC .nil pass0 (pa_cons (pv 3) (pa_cons (pv 1) pa_nil)))) (pg_name (i := 5) scMi.nd rfl (.inr rfl))
      (pss_one (ps_expr (pe_bm PySem.F.plainAttrs_list PySem.F.slot_list_append PySem.F.type_list_append mt_append (pv 2) (pa_cons (pe_call GD (hr.mono (by decide)) (by rfl) gD kD bD .nil pass0 (pa_cons (pe_lc (own := [("_law_at", 6)]) (g := gName 6) (tt := tYes) (te := tCB (fun xs H Q => ∃ p ys, xs = [V.ref p] ∧ ((SqL K H p ys ∧ ∀ l, H l = none → Q (.ref l) (upd H l (.tup ys))) ∨ (SqT K H p ys ∧ Q (.ref p) H))) (tCons (tLc (iList K (tVar 5)) (gName 7) tYes (tOp (rIx K) (tOp (rIx K) (tVar 0) (tVar 6)) (tVar 7)) [7]) tNil)) rfl scMi.nd (pi_list (pv 4))
        (blkOk_by (own := [("_law_at", 6)]) (N := NMi) (sc := defScope sMinors) (by decide +kernel)) (fun _ _ _ _ _ => pg_name (i := 6) scMi.nd rfl (Or.inr rfl)) (fun _ _ _ _ _ => pts_nil)
        (fun _ _ _ _ _ => (pe_callTy call_tuple_of (by rfl) B.tuple (by decide +kernel) (pa_cons (pe_lc (own := [("_law_spot", 7)]) (g := gName 7) (tt := tYes) rfl scMi.nd (pi_list (pv 5))
        (blkOk_by (own := [("_law_spot", 7)]) (N := NMi) (sc := scMiO) (by decide +kernel)) (fun _ _ _ _ _ => pg_name (i := 7) scMi.nd rfl (Or.inl rfl)) (fun _ _ _ _ _ => pts_nil)
        (fun _ _ _ _ _ => (pe_ix (r := rIx K) ix_seq (pe_ix (r := rIx K) ix_seq (pv 0) (pv 6) (fun _ _ => rfl)) (pv 7) (fun _ _ => rfl)))) pa_nil)))) pa_nil)) pa_nil)))))))
      (pss_one (ps_ret (pv 2)))))), ?_⟩
    have hal := hR.len
    refine ⟨Nat.zero_le _, fun D nD => ?_⟩
    have sD := same_new (o := .lst []) nD
    have hD0 : upd H D (.lst []) D = some (.lst []) := upd_same
    generalize upd H D (.lst []) = H1 at *
    have pD : p ≠ D := fun z => by rw [z] at hp; rcases hp with h | h <;> rw [nD] at h <;> cases h
    have hp1 : LoT H1 p (ca.map V.ref) := hp.imp (sD _ _) (sD _ _)
    have hR1 := hR.same sD
    obtain ⟨a0, ha0⟩ : ∃ c, ca[0]? = some c := ⟨_, List.getElem?_eq_getElem (by omega)⟩
    obtain ⟨r0, hr0, hI0⟩ := hR1.at ha0
    have hr0l := (hw r0 (List.mem_of_getElem? hr0)).1
    refine ⟨.ref p, rfl, hp1.ix (i := 0) (by rw [List.getElem?_map, ha0]; rfl) ⟨a0, _, rfl, .inr (SqT.of hI0), ?_⟩⟩
    rw [List.length_map, hr0l]
    refine ⟨.ref p, rfl, p, _, rfl, hp1.seq, ?_⟩
    rw [List.length_map, hal]
    refine ⟨.int (m : Int), rfl, rows.length, m, rfl, hk5, by omega, fun H2 l1 cs s12 nl1 hl1 hLL => ?_⟩
    have l1D : l1 ≠ D := fun z => by rw [z, hD0] at nl1; cases nl1
    have hD2 := s12 _ _ hD0
    have hp2 : LoT H2 p (ca.map V.ref) := hp1.imp (s12 _ _) (s12 _ _)
    have hR2 := hR1.same s12
    have hLD : LL (fun a => a ≠ D) H2 cs (chosenL rows.length m) := hLL.imp fun a x g e => ⟨(fun z => by rw [z, hD0] at g; cases g), e⟩
    have sH2 := sD.trans s12
    clear hLL nl1
    let F0 : List Nat → List Nat → Int := fun s t => lawDet m (s.map fun i => selc t (rows.getD i []))
    let G1 : List Nat → List Int := fun s => (chosenL wd m).map fun t => F0 s t
    have cl1 := ch_len hk5 m
    have cl2 := ch_len hw5 m
    have p5 : (5 : Nat) ^ m ≤ 5 ^ 4 := Nat.pow_le_pow_right (by decide) hm4
    have p54 : (5 : Nat) ^ 4 = 625 := rfl
    have gl : ∀ j, (((chosenL rows.length m).take j).flatMap G1).length ≤ 625 * 625 := fun j => by
      refine Nat.le_trans (flat_le (n := 625) fun s _ => ?_) (Nat.mul_le_mul_right 625 ?_)
      · show ((chosenL wd m).map _).length ≤ 625
        rw [List.length_map]
        omega
      · rw [List.length_take]
        omega
    refine ⟨l1, rfl, ⟨_, SqL.of hl1⟩, ?_⟩
    have csl := hLD.len
    refine for_list (K := K) (a := l1) (xs := cs.map V.ref) (fun j σ' H' => Kp D H2 H' ∧ (∃ y4 y5, σ' = [some (.ref p), some (.int (m : Int)), some (.ref D), some (.int (wd : Nat)), y4, y5, none, none]) ∧ H' D = some (.lst ((((chosenL rows.length m).take j).flatMap G1).map V.int))) ⟨Kp.refl _ _, ⟨none, none, rfl⟩, hD2⟩ (fun j σ' H' _ hI => SqL.of (hI.1 _ _ l1D hl1)) (fun j x σ' H3 hx hI => ?_) (fun σ' H3 hI => ?_)
    · obtain ⟨k3, ⟨y4, y5, rfl⟩, hD3⟩ := hI
      obtain ⟨ac, hac, rfl⟩ := refAt hx
      obtain ⟨sc, hs1, hsD, hs2⟩ := (hLD.imp fun a x g e => ⟨g, k3 _ _ g e⟩).at hac
      have hsm := List.mem_of_getElem? hs1
      obtain ⟨sl, sb, _⟩ := ch_at hsm
      refine ⟨.int (wd : Nat), rfl, .int (m : Int), rfl, wd, m, rfl, hw5, by omega, fun H4 l2 ds s34 nl2 hl2 hLL => ?_⟩
      have l2D : l2 ≠ D := fun z => by rw [z, hD3] at nl2; cases nl2
      have hD4 := s34 _ _ hD3
      have hL4 : LL (fun a => a ≠ D) H4 ds (chosenL wd m) := hLL.imp fun a x g e => ⟨(fun z => by rw [z, hD3] at g; cases g), e⟩
      clear hLL nl2
      have k4 : Kp D H2 H4 := k3.trans (Same.kp s34)
      have hs4 := s34 _ _ hs2
      have dsl := hL4.len
      have e1 : ((chosenL rows.length m).take (j + 1)).flatMap G1 = ((chosenL rows.length m).take j).flatMap G1 ++ G1 sc := by
        rw [List.take_add_one, hs1, List.flatMap_append]
        simp
      have glj := gl (j + 1)
      rw [e1, List.length_append] at glj
      have gsl : (G1 sc).length = (chosenL wd m).length := by
        show ((chosenL wd m).map _).length = _
        rw [List.length_map]
      refine ⟨l2, rfl, ⟨_, SqL.of hl2⟩, ?_⟩
      refine for_list (K := K) (a := l2) (xs := ds.map V.ref) (fun i σ' H' => Kp D H4 H' ∧ (∃ y5, σ' = [some (.ref p), some (.int (m : Int)), some (.ref D), some (.int (wd : Nat)), some (.ref ac), y5, none, none]) ∧ H' D = some (.lst ((((chosenL rows.length m).take j).flatMap G1 ++ (G1 sc).take i).map V.int))) ⟨Kp.refl _ _, ⟨_, rfl⟩, by rw [List.take_zero, List.append_nil]; exact hD4⟩ (fun i σ' H' _ hI => SqL.of (hI.1 _ _ l2D hl2)) (fun i x σ' H5 hx hI => ?_) (fun σ' H5 hI => ?_)
      · obtain ⟨k5, ⟨y5', rfl⟩, hD5⟩ := hI
        obtain ⟨at_, hat, rfl⟩ := refAt hx
        obtain ⟨tc, ht1, htD, ht2⟩ := (hL4.imp fun a x g e => ⟨g, k5 _ _ g e⟩).at hat
        have htm := List.mem_of_getElem? ht1
        obtain ⟨tl, tb, _⟩ := ch_at htm
        have hs5 := k5 _ _ hsD hs4
        have k25 := k4.trans k5
        have hp5 := hp2.kp k25 pD
        have hR5 := rows_kpl hR2 k25 hD2
        refine ⟨.ref D, rfl, .inl ⟨rfl, _, SqL.of hD5⟩, ?_⟩
        refine ⟨.ref ac, rfl, ac, rfl, ⟨_, SqL.of hs5⟩, fun D2 nD2 => ?_⟩
        have sqm := sq_of rfl hw hsm htm
        refine lc_list (K := K) (a := ac) (xs := sc.map fun n : Nat => V.int (n : Int)) (fun a H' => Same H5 H' ∧ ∃ es : List Addr, H' D2 = some (.lst (es.map V.ref)) ∧ Rows H' es ((sc.take a).map fun i => selc tc (rows.getD i []))) ⟨same_new nD2, [], upd_same, by rw [List.take_zero]; exact True.intro⟩ (fun a H' _ hP => SqL.of (hP.1 _ _ hs5)) (fun a x H6 hxa ⟨s6, hes⟩ => ?_) (fun H6 ⟨s6, es, hes, hRs⟩ => ?_)
        · obtain ⟨n, hn, rfl⟩ : ∃ n, sc[a]? = some n ∧ x = V.int (n : Nat) := by
            rw [List.getElem?_map] at hxa
            cases e : sc[a]? with
            | none => rw [e] at hxa; cases hxa
            | some n => rw [e] at hxa; exact ⟨n, rfl, (Option.some.inj hxa).symm⟩
          have hnr := sb n (List.mem_of_getElem? hn)
          have hai := List.getElem?_eq_getElem (l := ca) (i := n) (by omega)
          generalize ca[n]'(by omega) = ai at hai
          obtain ⟨r, hr1, hr2⟩ := (hR5.same s6).at hai
          have er : rows.getD n [] = r := by rw [List.getD_eq_getElem?_getD, hr1]; rfl
          have hrl := (hw r (List.mem_of_getElem? hr1)).1
          refine ⟨rfl, yes (iteT ?_)⟩
          refine ⟨.ref at_, rfl, at_, rfl, ⟨_, SqL.of (s6 _ _ ht2)⟩, fun D3 nD3 => ?_⟩
          have nD3' : H5 D3 = none := back_none s6 nD3
          refine lc_list (K := K) (a := at_) (xs := tc.map fun n : Nat => V.int (n : Int)) (fun b H' => Same H6 H' ∧ H' D3 = some (.lst (((tc.map fun q => z r q).take b).map V.int))) ⟨same_new nD3, by rw [List.take_zero]; exact upd_same⟩ (fun b H' _ hP => SqL.of ((s6.trans hP.1) _ _ ht2)) (fun b x H7 hxb ⟨s7, hE⟩ => ?_) (fun H7 ⟨s7, hE⟩ => ?_)
          · obtain ⟨q', hq', rfl⟩ : ∃ q', tc[b]? = some q' ∧ x = V.int (q' : Nat) := by
              rw [List.getElem?_map] at hxb
              cases e : tc[b]? with
              | none => rw [e] at hxb; cases hxb
              | some n => rw [e] at hxb; exact ⟨n, rfl, (Option.some.inj hxb).symm⟩
            have hqw := tb q' (List.mem_of_getElem? hq')
            refine ⟨rfl, yes (iteT ?_)⟩
            have hp7 : LoT H7 p (ca.map V.ref) := hp5.imp ((s6.trans s7) _ _) ((s6.trans s7) _ _)
            refine ⟨.ref p, rfl, .int (n : Nat), rfl, hp7.ix (by rw [List.getElem?_map, hai]; rfl) ?_⟩
            refine ⟨.int (q' : Nat), rfl, LoT.ix (xs := r.map V.int) (v := .int (z r q')) (.inr (s7 _ _ hr2)) (by rw [List.getElem?_map, getD_at (r := r) (g := q') (by omega)]; rfl) ?_⟩
            exact turn_fn (xs := tc.map fun q => z r q) nD3 (by rw [List.getElem?_map, hq']; rfl) (by rw [List.length_map]; omega) s7 hE (Same.refl _)
          · rw [List.length_map, List.take_of_length_le (by rw [List.length_map]; exact Nat.le_refl _)] at hE
            refine ⟨D3, _, rfl, .inl ⟨SqL.of hE, fun t nt => ?_⟩⟩
            have s8 := s7.trans (same_new (o := .tup ((tc.map fun q => z r q).map V.int)) nt)
            have ht8 : IntsAt (upd H7 t (.tup ((tc.map fun q => z r q).map V.int))) t (selc tc r) := upd_same
            rw [List.take_add_one, hn, List.map_append]
            have : (([n] : List Nat).map fun i => selc tc (rows.getD i [])) = [selc tc r] := by rw [List.map_singleton, er]
            show ∃ acc, _ ∧ _ ∧ _
            have key := row_more nD2 s6 hes (by rw [List.length_map, List.length_take]; omega) s8 ht8
            rw [← this] at key
            exact key
        · rw [List.length_map, List.take_length] at hRs
          refine nilA ⟨m, hm4, D2, es, _, e, rfl, hes, hRs, sqm, he, fun H7 s7 => ?_⟩
          have s57 := s6.trans s7
          have hD7 := s57 _ _ hD5
          have ei : (G1 sc)[i]? = some (F0 sc tc) := by
            show ((chosenL wd m).map _)[i]? = _
            rw [List.getElem?_map, ht1]
            rfl
          refine nilA ⟨D, _, _, rfl, rfl, hD7, ?_, ?_⟩
          · rw [List.length_map, List.length_append]
            have := List.length_take_le' i (G1 sc)
            exact smallM (by omega)
          · refine ⟨k5.trans ((Same.kp s57).trans Kp.put), ⟨_, rfl⟩, ?_⟩
            rw [upd_same, List.take_add_one, ei, ← List.append_assoc, List.map_append (l₁ := _ ++ _)]
            rfl
      · obtain ⟨k5, ⟨y5', rfl⟩, hD5⟩ := hI
        rw [List.length_map, dsl, ← gsl, List.take_length] at hD5
        exact ⟨k4.trans k5, ⟨_, _, rfl⟩, by rw [e1]; exact hD5⟩
    · obtain ⟨k3, ⟨y4, y5, rfl⟩, hD3⟩ := hI
      rw [List.length_map, csl, List.take_length] at hD3
      refine ⟨.ref D, rfl, q H3 D (fun b o e => ?_) hD3⟩
      exact k3 _ _ (fun z => by rw [z, nD] at e; cases e) (sH2 _ _ e)
/-! ### what the law calls a swap -/
def spLIsSw : Sp := fun vs H Q _ => ∃ (p a : Addr) (as : List Addr) (ll : List (List Int)) (cs : List Int), vs = [.ref p, .ref a] ∧ RowsAt H p as ll ∧ flaw ll = none ∧ IntsAt H a cs ∧ cs.length = ll.length ∧ (∃ x ∈ cs, x ≠ 0) ∧ (∀ j, j < width ll → packI ll cs j = 0) ∧ ∀ H', Same H H' → Q (.bl true) H'
theorem ok_lIsSw {f : Addr} {fd : FuncData} (F : Fun K "_law_is_swap" "_law_is_swap" sLIsSwap f fd) (B : Bl mg) (mAny : mg "any" = none) (CG : Cal P w K mg base CX0 2 "_law_goods" ["_law_lot_here", "_law_counts"] spLGoods) (CN : Cal P w K mg base CX0 1 "_law_noughts" ["_law_many"] spNoughts) : FnOk P w K mg base CX0 3 f fd ["_law_lot_here", "_law_row"] spLIsSw := by
  obtain ⟨fG, fdG, GG, gG, kG, bG⟩ := CG.ex
  obtain ⟨fN, fdN, GN, gN, kN, bN⟩ := CN.ex
  refine F.ok scIS (fun vs H Q E h => ?_) (fun cdv A outer s H vs Q E hr h => ?_)
  · obtain ⟨p, a, as, ll, cs, rfl, _⟩ := h
    rfl
  · obtain ⟨p, a, as, ll, cs, rfl, R, ef, hA, hl, hne, hz, q⟩ := h
    refine ⟨_, (pss_cons (ps_if (PW.pt (pw_or (pt_not (pt_val (pe_callB call_isi (by rfl) B.isinstance (by decide +kernel) (pa_cons (pv 1) (pa_cons (pe_bltn (v := .ty "tuple") (by rfl) B.tuple (by decide +kernel) rfl) pa_nil))))) (pw_or (pt_cmpR op_ne (pe_callB call_len_seq (by rfl) B.len PySem.boot_len (pa_cons (pv 1) pa_nil)) (pe_callB call_len_seq (by rfl) B.len PySem.boot_len (pa_cons (pv 0) pa_nil)) (nomark _)) (pw_or1 (pt_not (pt_val (pe_callB (cr_any rfl) (by rfl) mAny (by decide +kernel) (pa_cons (pe_lc (own := [("_law_number", 2)]) (g := gName 2) (tt := tYes) rfl scIS.nd (pi_tup (pv 1))
        (blkOk_by (own := [("_law_number", 2)]) (N := NIS) (sc := defScope sLIsSwap) (by decide +kernel)) (fun _ _ _ _ _ => pg_name (i := 2) scIS.nd rfl (Or.inl rfl)) (fun _ _ _ _ _ => pts_nil)
        (fun _ _ _ _ _ => (pe_cmpR op_ne (pv 2) pe_int (nomark _)))) pa_nil)))))))) (pss_one (ps_ret pe_bl)) pss_nil)
      (pss_cons (ps_if (pt_not (pt_val (pe_callB (cr_all rfl) (by rfl) B.all (by decide +kernel) (pa_cons (pe_lc (own := [("_law_number", 2)]) (g := gName 2) (tt := tYes) (te := tAndV (tCB (rIsi K) (tCons (tVar 2) (tCons (tC (.ty "int")) tNil))) (tNotV (tCB (rIsi K) (tCons (tVar 2) (tCons (tC (.ty "bool")) tNil))))) rfl scIS.nd (pi_tup (pv 1))
        (blkOk_by (own := [("_law_number", 2)]) (N := NIS) (sc := defScope sLIsSwap) (by decide +kernel)) (fun _ _ _ _ _ => pg_name (i := 2) scIS.nd rfl (Or.inl rfl)) (fun _ _ _ _ _ => pts_nil)
        (fun _ _ _ _ _ => (pe_and (pe_callB call_isi (by rfl) B.isinstance (by decide +kernel) (pa_cons (pv 2) (pa_cons (pe_bltn (v := .ty "int") (by rfl) B.int (by decide +kernel) rfl) pa_nil))) (pe_one (pe_not (pe_callB call_isi (by rfl) B.isinstance (by decide +kernel) (pa_cons (pv 2) (pa_cons (pe_bltn (v := .ty "bool") (by rfl) B.bool (by decide +kernel) rfl) pa_nil)))))))) pa_nil)))) (pss_one (ps_ret pe_bl)) pss_nil)
      (pss_one (ps_ret (pe_cmpR (op_eqD hr.units) (pe_call GG (hr.mono (by decide)) (by rfl) gG kG bG .nil pass0 (pa_cons (pv 0) (pa_cons (pv 1) pa_nil))) (pe_call GN (hr.mono (by decide)) (by rfl) gN kN bN .nil pass0 (pa_cons (pe_callB call_len_seq (by rfl) B.len PySem.boot_len (pa_cons (pe_ix ix_tup (pv 0) pe_int (fun _ _ => rfl)) pa_nil)) pa_nil)) (nomark _)))))), ?_⟩
    have hok := flaw_ok ef
    have hrw := flaw_rows ef
    have hal := R.2.len
    have hcl : cs.length ≤ 6 := by omega
    have numAt : ∀ {i : Nat} {x : V}, (cs.map V.int)[i]? = some x → ∃ n, cs[i]? = some n ∧ x = V.int n := fun {i x} hx => by
      rw [List.getElem?_map] at hx
      cases e : cs[i]? with
      | none => rw [e] at hx; cases hx
      | some n => rw [e] at hx; exact ⟨n, rfl, (Option.some.inj hx).symm⟩
    refine ⟨.ref a, rfl, _, _, _, _, true, rfl, .ty "tuple", .base (.tup hA), kit_ty (by decide +kernel), _, rfl, iteF ?_⟩
    refine ⟨.ref a, rfl, a, _, rfl, .inr (SqT.of hA), .ref p, rfl, p, _, rfl, .inr (SqT.of R.1), rfl, _, rfl, ?_⟩
    rw [List.length_map, List.length_map, hl, hal, decide_eq_true rfl]
    refine iteF ?_
    refine ⟨.ref a, rfl, a, rfl, ⟨_, SqT.of hA⟩, fun D nD => ?_⟩
    refine lc_tup (K := K) (a := a) (xs := cs.map V.int) (fun i H' => Same H H' ∧ H' D = some (.lst (((cs.take i).map fun n => !decide (n = 0)).map V.bl))) ⟨same_new nD, upd_same⟩ (fun i H' _ hP => SqT.of (hA.same hP.1)) (fun i x H' hx ⟨sm, hD⟩ => ?_) (fun H1 ⟨s1, hD⟩ => ?_)
    · obtain ⟨n, hn, rfl⟩ := numAt hx
      refine ⟨rfl, yes (iteT ⟨.int n, rfl, rfl, _, hD, ?_, same_late sm nD, ?_⟩)⟩
      · rw [List.length_map, List.length_map]
        exact small1000 (Nat.le_trans (List.length_take_le' _ _) (by omega))
      · rw [upd_same, List.take_add_one, hn, List.map_append, List.map_append]
        have e : decide (V.int n = V.int 0) = decide (n = 0) := by
          by_cases c : n = 0
          · rw [decide_eq_true c, decide_eq_true (congrArg V.int c)]
          · rw [decide_eq_false c, decide_eq_false fun z => c (V.int.inj z)]
        show some (HO.lst (_ ++ [V.bl (!decide (V.int n = V.int 0))])) = _
        rw [e]
        rfl
    rw [List.length_map, List.take_length] at hD
    have eany : ((cs.map fun n => !decide (n = 0)).any id) = true := by
      rw [List.any_eq_true]
      obtain ⟨x, hx, hx0⟩ := hne
      exact ⟨true, List.mem_map.mpr ⟨x, hx, by rw [decide_eq_false hx0]; rfl⟩, rfl⟩
    refine ⟨D, _, rfl, SqL.of hD, ?_⟩
    rw [eany]
    refine ⟨_, rfl, iteF ?_⟩
    have hA1 := hA.same s1
    refine ⟨.ref a, rfl, a, rfl, ⟨_, SqT.of hA1⟩, fun D2 nD2 => ?_⟩
    refine lc_tup (K := K) (a := a) (xs := cs.map V.int) (fun i H' => Same H1 H' ∧ H' D2 = some (.lst ((List.replicate i true).map V.bl))) ⟨same_new nD2, upd_same⟩ (fun i H' _ hP => SqT.of (hA1.same hP.1)) (fun i x H' hx ⟨sm, hE⟩ => ?_) (fun H2 ⟨s2, hE⟩ => ?_)
    · obtain ⟨n, hn, rfl⟩ := numAt hx
      have hi := (List.getElem?_eq_some_iff.mp hn).1
      refine ⟨rfl, yes (iteT ?_)⟩
      refine ⟨.int n, rfl, _, _, _, _, true, rfl, .ty "int", .base (.int n), kit_ty (by decide +kernel), _, rfl, iteT ?_⟩
      refine ⟨.int n, rfl, _, _, _, _, false, rfl, .ty "bool", .base (.int n), kit_ty (by decide +kernel), _, rfl, _, hE, ?_, same_late sm nD2, ?_⟩
      · rw [List.length_map, List.length_replicate]
        exact small1000 (by omega)
      · rw [upd_same, List.replicate_succ', List.map_append]
        rfl
    rw [List.length_map] at hE
    refine ⟨D2, _, rfl, SqL.of hE, ?_⟩
    have eall : (List.replicate cs.length true).all id = true := by
      rw [List.all_eq_true]
      intro x hx
      exact List.eq_of_mem_replicate hx
    rw [eall]
    refine ⟨_, rfl, iteF ?_⟩
    have s12 := s1.trans s2
    refine ⟨.ref p, rfl, .ref a, rfl, p, a, as, ll, cs, rfl, R.same s12, ef, hA.same s12, hl, fun H3 t s3 ht => ?_⟩
    have R3 := R.same (s12.trans s3)
    obtain ⟨a0, ha0, I0, hw0⟩ := R3.2.head hok.1
    have at0 : atI (as.map V.ref) 0 = some (.ref a0) := atI_nat (j := 0) (by rw [List.getElem?_map, ha0]; rfl)
    refine ⟨.ref p, rfl, p, _, 0, .ref a0, rfl, rfl, SqT.of R3.1, at0, a0, _, rfl, .inr (SqT.of I0), ?_⟩
    rw [List.length_map, hw0]
    refine ⟨_, rfl, by omega, by omega, fun H4 u s4 _ hu => ?_⟩
    rw [Int.toNat_natCast] at hu
    have eg : goodsI ll cs = List.replicate (width ll) 0 := by
      refine List.eq_replicate_iff.mpr ⟨by unfold goodsI; rw [List.length_map, List.length_range], fun b hb => ?_⟩
      unfold goodsI at hb
      obtain ⟨j, hj, rfl⟩ := List.mem_map.mp hb
      exact hz j (List.mem_range.mp hj)
    rw [eg] at ht
    refine ⟨dRow (List.replicate (width ll) 0), dRow (List.replicate (width ll) 0), dp_rowK (ht.same s4), dp_rowK hu, shaped_row _, shaped_row _, ?_⟩
    have er := row_eqv (r := List.replicate (width ll) (0 : Int))
    rw [List.length_replicate] at er
    rw [er]
    have ez : zeroB (List.replicate (width ll) (0 : Int)) = true := by
      unfold zeroB
      rw [List.all_eq_true]
      intro x hx
      rw [List.eq_of_mem_replicate hx]
      rfl
    rw [ez]
    exact q H4 (s12.trans (s3.trans s4))
end
end HL

set_option pp.maxSteps 600
set_option pp.deepTerms false
namespace HL
open PySem PySem.Spec PyProof.Rows L2
open C8 (pss_cut)
open LamX (CodeO Tabs TabS TabB ExtN tLam LamS lamS_by lamCx lamEnv codeO_ne)
abbrev NL : List Str := ["_law_script", "_law_feed_here", "_law_turn", "_law_lot_here", "_law_deep", "_law_many", "_law_told", "_law_minor", "_law_row"]
theorem scLaw : FnScope NL ["_law_script"] (defScope sLaw) := ⟨rfl, rfl, rfl, by decide +kernel, rfl, by decide +kernel, by decide +kernel⟩
theorem good_flaw {g m : Int} {ll : List (List Int)} (g1 : 1 ≤ g) (g3 : g ≤ 3) (m6 : m ≤ 6) (h : GoodLot g m 5 ll) : flaw ll = none := by
  obtain ⟨h1, h2, h3⟩ := h
  have hw : width ll = g.toNat := by
    cases ll with
    | nil => simp at h1
    | cons r rs => exact (h3 r List.mem_cons_self).1
  unfold flaw
  rw [if_pos ⟨h1, h2, by omega, by omega⟩]
  exact flawIn_none fun j r hj hjr => by
    obtain ⟨e1, e2, e3⟩ := h3 r (List.mem_of_getElem? hjr)
    refine okRow_iff.mpr ⟨by rw [e1, hw], fun n hn => ?_, e3⟩
    have := e2 n hn
    omega
theorem drop_ok {n g : Nat} {lot rows : List (List Int)} {st : List (Nat × List Int)} (S : SInv (g + n) (g + n) lot st rows) (h5 : lot.length ≤ 5) : ∀ r ∈ dropS g st, r.length = n ∧ Ent (2 ^ 4700) r := fun r hr => by
  unfold dropS at hr
  obtain ⟨q, hq, rfl⟩ := List.mem_map.mp hr
  have hq := (List.mem_filter.mp hq).1
  refine ⟨by rw [List.length_drop, (S.ech.ok q hq).2.1]; omega, fun x hx => ?_⟩
  obtain ⟨c, hc0, hc, hE⟩ := S.ent
  have h := hE q.2 (List.mem_append_left _ (List.mem_map.mpr ⟨q, hq, rfl⟩)) x (List.mem_of_mem_drop hx)
  have h1 : bnd c ≤ bnd 4 := bnd_mono (by omega)
  have h2 := bnd_bits
  generalize (2 : Int) ^ 4700 = z at *
  omega
theorem ne_nilL {K : PySem.W.Frag} {H : Hp} {l e : Addr} {ca : List Addr} {rows : List (List Int)} {Q : VK} (hl : H l = some (.lst (ca.map V.ref))) (R : Rows H ca rows) (he : H e = some (.lst [])) (q : Q (.bl (!decide (rows = []))) H) : rNeD K (.ref l) (.ref e) H Q := by
  refine ⟨.list (rows.map dRow), .list [], .lst (SqL.of hl) (dp_rowsK R), .lst (SqL.of he) .nil, shaped_rows rows, by decide, ?_⟩
  rw [eqv_rnil]
  exact q
theorem minors_mem {rows : List (List Int)} {k wd m : Nat} {x : Int} : x ∈ minorsL rows k wd m ↔ ∃ s ∈ chosenL k m, ∃ t ∈ chosenL wd m, x = lawDet m (s.map fun i => selc t (rows.getD i [])) := by
  unfold minorsL
  rw [List.mem_flatMap]
  constructor
  · rintro ⟨s, hs, hx⟩
    obtain ⟨t, ht, rfl⟩ := List.mem_map.mp hx
    exact ⟨s, hs, t, ht, rfl⟩
  · rintro ⟨s, hs, t, ht, rfl⟩
    exact ⟨s, hs, List.mem_map.mpr ⟨t, ht, rfl⟩⟩
section
variable {g k : Nat} {ll : List (List Int)} {A B : List (Nat × List Int)}
theorem Spt.none (h : Spt g k ll A B) {m : Nat} (hA : A.length < m) (m3 : m ≤ 3) : ∀ x ∈ minorsL ll k g m, x = 0 := fun x hx => by
  obtain ⟨s, hs, t, ht, rfl⟩ := minors_mem.mp hx
  have hm : m = 1 ∨ m = 2 ∨ m = 3 := by omega
  rcases hm with rfl | rfl | rfl
  · obtain ⟨i, hi, rfl⟩ := ch1.mp hs
    obtain ⟨c, hc, rfl⟩ := ch1.mp ht
    show lawDet 1 [_] = 0
    rw [lawDet1]
    exact h.none1 hA hc hi
  · obtain ⟨i, j, hij, hj, rfl⟩ := ch2.mp hs
    obtain ⟨c, e, hce, he, rfl⟩ := ch2.mp ht
    show lawDet 2 [_, _] = 0
    rw [lawDet2]
    exact h.none2 hA (by omega) he (by omega) hj
  · obtain ⟨i, j, l, hij, hjl, hl, rfl⟩ := ch3.mp hs
    obtain ⟨c, e, f, hce, hef, hf, rfl⟩ := ch3.mp ht
    show lawDet 3 [_, _, _] = 0
    rw [lawDet3]
    exact h.none3 hA (by omega) (by omega) hf (by omega) (by omega) hl
theorem Spt.some (h : Spt g k ll A B) {m : Nat} (hA : A.length = m) (m1 : 1 ≤ m) (m3 : m ≤ 3) : ∃ x ∈ minorsL ll k g m, x ≠ 0 := by
  refine Classical.byContradiction fun no => ?_
  have all : ∀ x ∈ minorsL ll k g m, x = 0 := fun x hx => Classical.byContradiction fun z => no ⟨x, hx, z⟩
  have hm : m = 1 ∨ m = 2 ∨ m = 3 := by omega
  rcases hm with rfl | rfl | rfl
  · match A, hA with
    | [a], _ =>
      refine h.some1 rfl fun c hc i hi => ?_
      rw [← lawDet1]
      exact all _ (minors_mem.mpr ⟨[i], ch1.mpr ⟨i, hi, rfl⟩, [c], ch1.mpr ⟨c, hc, rfl⟩, rfl⟩)
  · match A, hA with
    | [a, b], _ =>
      refine h.some2 rfl fun c e hce he i j hij hj => ?_
      rw [← lawDet2]
      exact all _ (minors_mem.mpr ⟨[i, j], ch2.mpr ⟨i, j, hij, hj, rfl⟩, [c, e], ch2.mpr ⟨c, e, hce, he, rfl⟩, rfl⟩)
  · match A, hA with
    | [a, b, c], _ =>
      refine h.some3 rfl fun x y w hxy hyw hw i j l hij hjl hl => ?_
      rw [← lawDet3]
      exact all _ (minors_mem.mpr ⟨[i, j, l], ch3.mpr ⟨i, j, l, hij, hjl, hl, rfl⟩, [x, y, w], ch3.mpr ⟨x, y, w, hxy, hyw, hw, rfl⟩, rfl⟩)
theorem rise_len {g : Nat} : ∀ {l : List (Nat × List Int)} {lo : Nat}, l.Pairwise (fun a b => a.1 < b.1) → (∀ q ∈ l, lo ≤ q.1 ∧ q.1 < g) → lo ≤ g → l.length ≤ g - lo
  | [], lo, _, _, _ => Nat.zero_le _
  | x :: l, lo, hp, h, hl => by
    obtain ⟨h1, h2⟩ := List.pairwise_cons.mp hp
    have hx := h x List.mem_cons_self
    have := rise_len (lo := x.1 + 1) h2 (fun q hq => ⟨h1 q hq, (h q (List.mem_cons_of_mem _ hq)).2⟩) (by omega)
    rw [List.length_cons]
    omega
theorem Spt.few (h : Spt g k ll A B) : A.length ≤ g := by
  have := rise_len (g := g) (lo := 0) (List.pairwise_append.mp h.ech.rise).1 (fun q hq => ⟨Nat.zero_le _, h.ha q hq⟩) (Nat.zero_le _)
  omega
/-- how many rows and columns the greatest minor that isn't 0 has -/
def deepL (ll : List (List Int)) (k g : Nat) : Nat → Nat
  | 0 => 0
  | n + 1 => if (minorsL ll k g (n + 1)).any (fun x => !decide (x = 0)) = true then n + 1 else deepL ll k g n
theorem Spt.deep (h : Spt g k ll A B) : ∀ n, A.length ≤ n → n ≤ 3 → deepL ll k g n = A.length
  | 0, h0, _ => by
    show 0 = A.length
    omega
  | n + 1, h1, h3 => by
    show (if (minorsL ll k g (n + 1)).any (fun x => !decide (x = 0)) = true then n + 1 else deepL ll k g n) = A.length
    by_cases c : A.length = n + 1
    · obtain ⟨x, hx, hx0⟩ := h.some c (by omega) h3
      rw [if_pos, c]
      rw [List.any_eq_true]
      exact ⟨x, hx, by rw [decide_eq_false hx0]; rfl⟩
    · rw [if_neg, h.deep n (by omega) (by omega)]
      intro z
      obtain ⟨x, hx, hx0⟩ := List.any_eq_true.mp z
      rw [h.none (m := n + 1) (by omega) h3 x hx] at hx0
      cases hx0
theorem Spt.meas (h : Spt g k ll A B) (k1 : 1 ≤ k) (k4 : k ≤ 4) (a1 : 1 ≤ A.length) (b1 : 1 ≤ B.length) {d : Int} (hd : ∀ x ∈ minorsL (cts g B) B.length k B.length, d ∣ x) : d ∣ 1 := by
  have lb : (cts g B).length = B.length := by unfold cts; rw [List.length_map]
  have hd' : ∀ m, B.length = m → ∀ s ∈ chosenL m m, ∀ t ∈ chosenL k m, d ∣ lawDet m (s.map fun i => selc t ((cts g B).getD i [])) := fun m hm s hs t ht => by
    subst hm
    exact hd _ (minors_mem.mpr ⟨s, hs, t, ht, rfl⟩)
  refine h.gcd k1 k4 a1 (fun t e c hc => ?_) (fun t u e c f hcf hf => ?_) (fun t u w e c f x hcf hfx hx => ?_) b1
  · rw [e] at lb hd'
    have := hd' 1 lb.symm [0] (ch1.mpr ⟨0, by decide, rfl⟩) [c] (ch1.mpr ⟨c, hc, rfl⟩)
    have e2 : lawDet 1 ([0].map fun i => selc [c] ([t].getD i [])) = z t c := lawDet1
    rwa [e2] at this
  · rw [e] at lb hd'
    have := hd' 2 lb.symm [0, 1] (ch2.mpr ⟨0, 1, by decide, by decide, rfl⟩) [c, f] (ch2.mpr ⟨c, f, hcf, hf, rfl⟩)
    have e2 : lawDet 2 ([0, 1].map fun i => selc [c, f] ([t, u].getD i [])) = z t c * z u f - z t f * z u c := lawDet2
    rwa [e2] at this
  · rw [e] at lb hd'
    have := hd' 3 lb.symm [0, 1, 2] (ch3.mpr ⟨0, 1, 2, by decide, by decide, by decide, rfl⟩) [c, f, x] (ch3.mpr ⟨c, f, x, hcf, hfx, hx, rfl⟩)
    have e2 : lawDet 3 ([0, 1, 2].map fun i => selc [c, f, x] ([t, u, w].getD i [])) = D3 (selc [c, f, x] t) (selc [c, f, x] u) (selc [c, f, x] w) := lawDet3
    rwa [e2] at this
/-- some hold has goods -/
theorem Spt.pos (h : Spt g k ll A B) {r : List Int} (hr : r ∈ ll) {x : Int} (hx : x ∈ r) (hx0 : x ≠ 0) : 1 ≤ A.length := by
  refine Classical.byContradiction fun z => ?_
  obtain ⟨i, hi, rfl⟩ := List.mem_iff_getElem.mp hr
  obtain ⟨c, hc, rfl⟩ := List.mem_iff_getElem.mp hx
  have hik : i < k := by rw [← h.lk]; exact hi
  have hcg : c < g := by rw [← h.lg _ hr]; exact hc
  have := h.none1 (by omega) hcg hik
  apply hx0
  have e : ll.getD i [] = ll[i] := by rw [List.getD_eq_getElem?_getD, List.getElem?_eq_getElem hi]; rfl
  rw [e] at this
  have e2 : D1 (selc [c] ll[i]) = ll[i][c] := by
    show (ll[i]).getD c 0 = _
    rw [List.getD_eq_getElem?_getD, List.getElem?_eq_getElem hc]
    rfl
  rwa [e2] at this
end
/-- all that the law takes from the module -/
structure Txt (P : Program) (w : World) (K : PySem.W.Frag) (mg : Str → Option Value) (base : Heap) (Pw : Addr) : Prop where
  B : Bl mg
  any : mg "any" = none
  feed : Cal P w K mg base CX0 1 "_law_feed" ["_law_script"] (spFeed K)
  sm : Cal P w K mg base CX0 4 "_law_small_lot" ["_law_feed_here"] spSmall
  sp : Cal P w K mg base CX0 6 "spanning" ["lot"] (spSpan [(Pw, qW)])
  is : Cal P w K mg base CX0 3 "_law_is_swap" ["_law_lot_here", "_law_row"] spLIsSw
  mi : Cal P w K mg base CX0 6 "_law_minors" ["_law_rows", "_law_many"] spMinors
  me : Cal P w K mg base CX0 1 "_law_measure" ["_law_numbers"] spMeas
/-- the law's turn: what it knows of the heap -/
structure S7 (cf fe : Addr) (T : List (Addr × Str)) (p : Addr) (as : List Addr) (ll : List (List Int)) (H : Hp) : Prop where
  F : FeedAt cf H fe
  T : Tabs T H
  R : RowsAt H p as ll
section
variable {cf fe p : Addr} {T : List (Addr × Str)} {as : List Addr} {ll : List (List Int)} {H H' : Hp}
theorem S7.same (x : S7 cf fe T p as ll H) (s : Same H H') : S7 cf fe T p as ll H' := ⟨x.F.same s, x.T.ext s, x.R.same s⟩
theorem S7.ext (x : S7 cf fe T p as ll H) (s : ExtN H H') (t : Tabs T H') : S7 cf fe T p as ll H' := ⟨x.F.ext s, t, x.R.ext s⟩
theorem S7.kp (x : S7 cf fe T p as ll H) (k : Kp fe H H') (F : FeedAt cf H' fe) : S7 cf fe T p as ll H' := ⟨F, tabs_kp x.T x.F k, x.R.kp x.F k⟩
end
section
variable {P : Program} {w : World} {K : PySem.W.Frag} {mg : Str → Option Value} {base : Heap}
def spLaw (K : PySem.W.Frag) (Pw : Addr) : Sp := fun vs H Q _ => ∃ (a : Addr) (ns : List Int), vs = [.ref a] ∧ SqL K H a (ns.map V.int) ∧ ns.length ≤ 63 ∧ Tabs [(Pw, qW)] H ∧ ∀ H', Q (.bl true) H'
theorem ok_law {f Pw : Addr} {fd : FuncData} (F : Fun K "law" "law" sLaw f fd) (T : Txt P w K mg base Pw) : FnOk P w K mg base CX0 8 f fd ["_law_script"] (spLaw K Pw) := by
  have B := T.B
  have mAny := T.any
  obtain ⟨fF, fdF, GF, gF, kF, bF⟩ := T.feed.ex
  obtain ⟨fSm, fdSm, GSm, gSm, kSm, bSm⟩ := T.sm.ex
  obtain ⟨fSp, fdSp, GSp, gSp, kSp, bSp⟩ := T.sp.ex
  obtain ⟨fIs, fdIs, GIs, gIs, kIs, bIs⟩ := T.is.ex
  obtain ⟨fMi, fdMi, GMi, gMi, kMi, bMi⟩ := T.mi.ex
  obtain ⟨fMe, fdMe, GMe, gMe, kMe, bMe⟩ := T.me.ex
  refine F.ok scLaw (fun vs H Q E h => ?_) fun cdv A outer s H vs Q E hr h => ?_
  · obtain ⟨a, ns, rfl, _⟩ := h
    rfl
  · obtain ⟨a, ns, rfl, hS, hlen, hT, q⟩ := h
    refine ⟨_, (pss_cons (ps_set (i := 1) scLaw.nd rfl (.inl rfl) (pe_call GF (hr.mono (by decide)) (by rfl) gF kF bF .nil pass0 (pa_cons (pv 0) pa_nil)))
      (pss_cons (ps_for PassesOwn.never rfl (pi_range1 (by rfl) B.range (pa_cons pe_int pa_nil)) (pg_name (i := 2) scLaw.nd rfl (.inl rfl))
      (pss_cons (ps_set (i := 3) scLaw.nd rfl (.inr rfl) (pe_call GSm (hr.mono (by decide)) (by rfl) gSm kSm bSm .nil pass0 (pa_cons (pv 1) pa_nil)))
      (pss_cons (ps_set (i := 4) scLaw.nd rfl (.inl rfl) pe_int)
      (pss_cut (ps_for PassesOwn.never rfl (pi_range2 (by rfl) B.range (pa_cons pe_int (pa_cons (pe_op op_add pe_int (pe_callB (call_min2 rfl) (by rfl) B.min (by decide +kernel) (pa_cons (pe_callB call_len_seq (by rfl) B.len PySem.boot_len (pa_cons (pv 3) pa_nil)) (pa_cons (pe_callB call_len_seq (by rfl) B.len PySem.boot_len (pa_cons (pe_ix ix_tup (pv 3) pe_int (fun _ _ => rfl)) pa_nil)) pa_nil)))) pa_nil))) (pg_name (i := 5) scLaw.nd rfl (.inl rfl))
      (pss_one (ps_if (pt_val (pe_callB (cr_any rfl) (by rfl) mAny (by decide +kernel) (pa_cons (pe_lc (own := [("_law_minor", 7)]) (g := gName 7) (tt := tYes) rfl scLaw.nd (pi_list (pe_call GMi (hr.mono (by decide)) (by rfl) gMi kMi bMi .nil pass0 (pa_cons (pv 3) (pa_cons (pv 5) pa_nil))))
        (blkOk_by (own := [("_law_minor", 7)]) (N := NL) (sc := defScope sLaw) (by decide +kernel)) (fun _ _ _ _ _ => pg_name (i := 7) scLaw.nd rfl (Or.inl rfl)) (fun _ _ _ _ _ => pts_nil)
        (fun _ _ _ _ _ => (pe_cmpR op_ne (pv 7) pe_int (nomark _)))) pa_nil))) (pss_one (ps_set (i := 4) scLaw.nd rfl (.inl rfl) (pv 5))) pss_nil)))
      (pss_cons (ps_set (i := 6) scLaw.nd rfl (.inl rfl) (pe_call GSp (hr.mono (by decide)) (by rfl) gSp kSp bSp .nil pass0 (pa_cons (pv 3) pa_nil)))
      (pss_cons (ps_if (PW.pt (pw_or (pt_not (pt_val (pe_callB call_isi (by rfl) B.isinstance (by decide +kernel) (pa_cons (pv 6) (pa_cons (pe_bltn (v := .ty "list") (by rfl) B.list (by decide +kernel) rfl) pa_nil))))) (pw_or1 (pt_cmpR op_ne (pe_callB call_len_seq (by rfl) B.len PySem.boot_len (pa_cons (pv 6) pa_nil)) (pe_op op_sub (pe_callB call_len_seq (by rfl) B.len PySem.boot_len (pa_cons (pv 3) pa_nil)) (pv 4)) (nomark _))))) pss_never pss_nil)
      (pss_cons (ps_if (pt_not (pt_val (pe_callB (cr_all rfl) (by rfl) B.all (by decide +kernel) (pa_cons (pe_lc (own := [("_law_row", 8)]) (g := gName 8) (tt := tYes) rfl scLaw.nd (pi_list (pv 6))
        (blkOk_by (own := [("_law_row", 8)]) (N := NL) (sc := defScope sLaw) (by decide +kernel)) (fun _ _ _ _ _ => pg_name (i := 8) scLaw.nd rfl (Or.inl rfl)) (fun _ _ _ _ _ => pts_nil)
        (fun _ _ _ _ _ => (pe_call GIs (hr.mono (by decide)) (by rfl) gIs kIs bIs .nil pass0 (pa_cons (pv 3) (pa_cons (pv 8) pa_nil))))) pa_nil)))) pss_never pss_nil)
      (pss_one (ps_if (PW.pt (pw_and (pt_cmpR (op_neD hr.units) (pv 6) (pe_lst pa_nil) (nomark _)) (pw_and1 (pt_cmpR op_ne (pe_call GMe (hr.mono (by decide)) (by rfl) gMe kMe bMe .nil pass0 (pa_cons (pe_call GMi (hr.mono (by decide)) (by rfl) gMi kMi bMi .nil pass0 (pa_cons (pv 6) (pa_cons (pe_callB call_len_seq (by rfl) B.len PySem.boot_len (pa_cons (pv 6) pa_nil)) pa_nil))) pa_nil)) pe_int (nomark _))))) pss_never pss_nil)))))))))
      (pss_one (ps_ret pe_bl)))), ?_⟩
    refine ⟨.ref a, rfl, a, ns, rfl, hS, hlen, fun H1 fe cf s1 nf F1 => ?_⟩
    refine ⟨3, rfl, by decide, by decide, ?_⟩
    refine for_range (lo := 0) (n := 3) (fun i σ' H' => (∃ y2 y3 y4 y5 y6, σ' = [some (.ref a), some (.ref fe), y2, y3, y4, y5, y6, none, none]) ∧ FeedAt cf H' fe ∧ Tabs [(Pw, qW)] H')
      ⟨⟨none, none, none, none, none, rfl⟩, F1, hT.ext s1⟩ (fun i σ H2 hi hI => ?_) (fun σ H2 _ => q H2)
    obtain ⟨⟨y2, y3, y4, y5, y6, rfl⟩, F2, T2⟩ := hI
    -- the lot
    refine ⟨.ref fe, rfl, fe, cf, rfl, F2, fun H3 p ll g m k3 F3 ⟨as, hp, hR⟩ g1 g2 m1 m2 gl => ?_⟩
    have X3 : S7 cf fe [(Pw, qW)] p as ll H3 := ⟨F3, tabs_kp T2 F2 k3, ⟨hp, hR⟩⟩
    have ef := good_flaw g1 g2 (by omega) ⟨gl.1, Nat.le_trans gl.2.1 (by decide), gl.2.2⟩
    have hk4 : ll.length ≤ 4 := gl.2.1
    have hok := flaw_ok ef
    have hrw := flaw_rows ef
    have hlen0 := hR.len
    have hg3 : width ll ≤ 3 := by omega
    have hent : ∀ r ∈ ll, r.length = width ll ∧ Ent (2 ^ 3) r := fun r hr => ⟨(hrw r hr).1, lot_ent ef r hr⟩
    have hpos : ∃ r ∈ ll, ∃ x ∈ r, x ≠ 0 := by
      have h1 := gl.1
      have hm := List.getElem_mem (l := ll) (n := 0) (by omega)
      refine ⟨_, hm, ?_⟩
      obtain ⟨_, _, x, hx, hx0⟩ := gl.2.2 _ hm
      exact ⟨x, hx, by omega⟩
    clear k3 F2 T2 F3 hp hR gl g1 g2 m1 m2
    generalize eT : [(Pw, qW)] = TT at *
    generalize hd : deepL ll ll.length (width ll) (min ll.length (width ll)) = dp
    -- the greatest minor
    refine ⟨fun σ' H' => (∃ y2 y5 y6, σ' = [some (.ref a), some (.ref fe), y2, some (.ref p), some (.int ((dp : Nat) : Int)), y5, y6, none, none]) ∧ S7 cf fe TT p as ll H', ?_, ?_⟩
    · obtain ⟨a0, ha0, I0, hw0⟩ := X3.R.2.head hok.1
      have I0 : IntsAt H3 a0 (ll.headD []) := I0
      have at0 : atI (as.map V.ref) 0 = some (.ref a0) := atI_nat (j := 0) (by rw [List.getElem?_map, ha0]; rfl)
      refine ⟨.ref p, rfl, p, _, rfl, .inr (SqT.of X3.R.1), .ref p, rfl, p, _, 0, .ref a0, rfl, rfl, SqT.of X3.R.1, at0, a0, _, rfl, .inr (SqT.of I0), _, _, rfl, ?_⟩
      rw [List.length_map, List.length_map, hlen0, hw0]
      have emin : (if ((width ll : Nat) : Int) < ((ll.length : Nat) : Int) then ((width ll : Nat) : Int) else ((ll.length : Nat) : Int)) = ((min ll.length (width ll) : Nat) : Int) := by
        split <;> omega
      rw [emin]
      have hmn : min ll.length (width ll) ≤ 3 := by omega
      generalize min ll.length (width ll) = mn at *
      refine ⟨1, _, rfl, rfl, 1, _, rfl, ⟨by omega, by omega, by omega, by omega⟩, ?_⟩
      have en : ((1 : Int) + (mn : Nat) - 1).toNat = mn := by omega
      rw [en]
      refine for_range (lo := 1) (n := mn) (fun i σ' H' => (∃ y2 y5 y6, σ' = [some (.ref a), some (.ref fe), y2, some (.ref p), some (.int ((deepL ll ll.length (width ll) i : Nat) : Int)), y5, y6, none, none]) ∧ S7 cf fe TT p as ll H') ⟨⟨_, _, _, rfl⟩, X3⟩ (fun i σ H4 hi hI => ?_) (fun σ H4 hI => ?_)
      · obtain ⟨⟨y2, y5, y6, rfl⟩, X4⟩ := hI
        have ez : (1 : Int) + (i : Nat) = ((i + 1 : Nat) : Int) := by omega
        rw [ez]
        refine ⟨.ref p, rfl, .int ((i + 1 : Nat) : Int), rfl, p, as, ll, width ll, i + 1, 3, rfl, .inr X4.R.1, X4.R.2, hok.1, by omega, by omega, by omega, by decide, hent, fun H5 l s5 hl => ?_⟩
        refine ⟨l, rfl, ⟨_, SqL.of hl⟩, fun D nD => ?_⟩
        have X5 := X4.same s5
        have few : (minorsL ll ll.length (width ll) (i + 1)).length ≤ 625 * 625 := by
          refine Nat.le_trans (flat_le (n := 625) fun s _ => ?_) (Nat.mul_le_mul_right 625 ?_)
          · rw [List.length_map]
            exact Nat.le_trans (ch_len (by omega) _) (Nat.le_trans (Nat.pow_le_pow_right (by decide) (show i + 1 ≤ 4 by omega)) (by decide))
          · exact Nat.le_trans (ch_len (by omega) _) (Nat.le_trans (Nat.pow_le_pow_right (by decide) (show i + 1 ≤ 4 by omega)) (by decide))
        have edp : deepL ll ll.length (width ll) (i + 1) = if (minorsL ll ll.length (width ll) (i + 1)).any (fun x => !decide (x = 0)) = true then i + 1 else deepL ll ll.length (width ll) i := rfl
        generalize minorsL ll ll.length (width ll) (i + 1) = ms at hl few edp
        refine lc_list (K := K) (a := l) (xs := ms.map V.int) (fun i H' => Same H5 H' ∧ H' D = some (.lst (((ms.take i).map fun n => !decide (n = 0)).map V.bl))) ⟨same_new nD, upd_same⟩ (fun i H' _ hP => SqL.of (hP.1 _ _ hl)) (fun i x H' hx ⟨sm, hD⟩ => ?_) (fun H6 ⟨s6, hD⟩ => ?_)
        · obtain ⟨n, hn, rfl⟩ : ∃ n, ms[i]? = some n ∧ x = V.int n := by
            rw [List.getElem?_map] at hx
            cases e : ms[i]? with
            | none => rw [e] at hx; cases hx
            | some n => rw [e] at hx; exact ⟨n, rfl, (Option.some.inj hx).symm⟩
          refine ⟨rfl, yes (iteT ⟨.int n, rfl, rfl, _, hD, ?_, same_late sm nD, ?_⟩)⟩
          · rw [List.length_map, List.length_map]
            exact smallM (Nat.le_trans (List.length_take_le' _ _) (by omega))
          · rw [upd_same, List.take_add_one, hn, List.map_append, List.map_append]
            have e : decide (V.int n = V.int 0) = decide (n = 0) := by
              by_cases c : n = 0
              · rw [decide_eq_true c, decide_eq_true (congrArg V.int c)]
              · rw [decide_eq_false c, decide_eq_false fun z => c (V.int.inj z)]
            show some (HO.lst (_ ++ [V.bl (!decide (V.int n = V.int 0))])) = _
            rw [e]
            rfl
        · rw [List.length_map, List.take_length] at hD
          have ea : ((ms.map fun n => !decide (n = 0)).any id) = ms.any fun n => !decide (n = 0) := by
            rw [List.any_map]
            rfl
          refine ⟨D, _, rfl, SqL.of hD, ?_⟩
          rw [ea]
          have X6 := X5.same s6
          refine ⟨_, rfl, ite2 (fun c => ?_) (fun c => ?_)⟩
          · rw [if_pos c] at edp
            rw [edp]
            exact ⟨_, rfl, ⟨_, _, _, rfl⟩, X6⟩
          · rw [if_neg c] at edp
            rw [edp]
            exact ⟨⟨_, _, _, rfl⟩, X6⟩
      · obtain ⟨⟨y2, y5, y6, rfl⟩, X4⟩ := hI
        rw [hd]
        exact ⟨⟨_, _, _, rfl⟩, X4⟩
    clear X3
    rintro σ' H4 ⟨⟨y2, y5, y6, rfl⟩, X4⟩
    -- spanning
    subst eT
    refine ⟨.ref p, rfl, p, as, ll, rfl, X4.R, ef, X4.T, fun H5 l sa st wr e5 T5 nl hl Rs S => ?_⟩
    have X5 := X4.ext e5 T5
    have dok := drop_ok (n := ll.length) (g := width ll) S (by rw [wdW_len]; exact hok.2.1)
    obtain ⟨SP, ed, ecount⟩ := sp_of ef S
    generalize (st.filter fun q => decide (q.1 < width ll)) = AA at *
    generalize (st.filter fun q => decide (width ll ≤ q.1)) = BB at *
    have hfull := SP.full hok.1 hk4
    have hA1 : 1 ≤ AA.length := by
      obtain ⟨r, hr, x, hx, hx0⟩ := hpos
      exact SP.pos hr hx hx0
    have hfew := SP.few
    have hdp : dp = AA.length := by
      rw [← hd]
      exact SP.deep _ (by omega) (by omega)
    have hsl := Rs.len
    have hrl : (dropS (width ll) st).length = BB.length := by
      rw [ed]
      unfold cts
      rw [List.length_map]
    have hsw : ∀ r ∈ dropS (width ll) st, r.length = ll.length ∧ (∃ x ∈ r, x ≠ 0) ∧ ∀ j, j < width ll → packI ll r j = 0 := fun r hr => by
      rw [ed] at hr
      unfold cts at hr
      obtain ⟨q, hq, rfl⟩ := List.mem_map.mp hr
      exact SP.swap hq
    have hme : 1 ≤ BB.length → ∀ d : Int, (∀ x ∈ minorsL (dropS (width ll) st) (dropS (width ll) st).length ll.length BB.length, d ∣ x) → d ∣ 1 := fun b1 d hd => by
      rw [hrl, ed] at hd
      exact SP.meas hok.1 hk4 hA1 b1 hd
    have hB4 : BB.length ≤ 4 := by omega
    have hBk : ((BB.length : Nat) : Int) = ((ll.length : Nat) : Int) - ((dp : Nat) : Int) := by omega
    generalize dropS (width ll) st = told at Rs dok hrl hsw hme hsl
    refine ⟨.ref l, rfl, _, _, _, _, true, rfl, .ty "list", .base (.lst hl), kit_ty (by decide +kernel), _, rfl, iteF ?_⟩
    refine ⟨.ref l, rfl, l, _, rfl, .inl (SqL.of hl), .ref p, rfl, p, _, rfl, .inr (SqT.of X5.R.1), _, rfl, _, _, rfl, rfl, rfl, _, rfl, ?_⟩
    rw [List.length_map, List.length_map, hsl, hrl, hlen0, hBk, decide_eq_true rfl]
    refine iteF ?_
    refine ⟨.ref l, rfl, l, rfl, ⟨_, SqL.of hl⟩, fun D nD => ?_⟩
    refine lc_list (K := K) (a := l) (xs := sa.map V.ref) (fun i H' => Same H5 H' ∧ H' D = some (.lst ((List.replicate i true).map V.bl))) ⟨same_new nD, upd_same⟩ (fun i H' _ hP => SqL.of (hP.1 _ _ hl)) (fun i x H' hx ⟨sm, hE⟩ => ?_) (fun H6 ⟨s6, hE⟩ => ?_)
    · obtain ⟨a, ha, rfl⟩ := refAt hx
      have hi := (List.getElem?_eq_some_iff.mp ha).1
      obtain ⟨r, hr1, hr2⟩ := (Rs.same sm).at ha
      have hr2 : IntsAt H' a r := hr2
      obtain ⟨w1, w2, w3⟩ := hsw r (List.mem_of_getElem? hr1)
      refine ⟨rfl, yes (iteT ?_)⟩
      refine ⟨.ref p, rfl, .ref a, rfl, nilA ⟨p, a, as, ll, r, rfl, (X5.same sm).R, ef, hr2, w1, w2, w3, fun H7 s7 => ⟨_, s7 _ _ hE, ?_, same_late (sm.trans s7) nD, ?_⟩⟩⟩
      · rw [List.length_map, List.length_replicate]
        exact small1000 (by omega)
      · rw [upd_same, List.replicate_succ', List.map_append]
        rfl
    rw [List.length_map] at hE
    refine ⟨D, _, rfl, SqL.of hE, ?_⟩
    have eall : (List.replicate sa.length true).all id = true := by
      rw [List.all_eq_true]
      intro x hx
      exact List.eq_of_mem_replicate hx
    rw [eall]
    refine ⟨_, rfl, iteF ?_⟩
    have X6 := X5.same s6
    have hl6 := s6 _ _ hl
    have R6 := Rs.same s6
    refine ⟨.ref l, rfl, Nat.zero_le _, fun c nc => ?_⟩
    have s7 := same_new (o := .lst []) nc
    refine ne_nilL (s7 _ _ hl6) (R6.same s7) upd_same ⟨_, rfl, ?_⟩
    have X7 := X6.same s7
    by_cases h0 : told = []
    · rw [decide_eq_true h0]
      exact iteF (iteF ⟨⟨_, _, _, _, _, rfl⟩, X7.F, X7.T⟩)
    · rw [decide_eq_false h0]
      refine iteT ?_
      have hb1 : 1 ≤ BB.length := by
        rw [← hrl]
        exact List.length_pos_iff.mpr h0
      have hl7 := s7 _ _ hl6
      refine ⟨.ref l, rfl, .ref l, rfl, l, _, rfl, .inl (SqL.of hl7), ?_⟩
      rw [List.length_map, hsl, hrl]
      refine ⟨l, sa, told, ll.length, BB.length, 4700, rfl, .inl hl7, R6.same s7, by omega, by omega, by omega, hB4, by decide, dok, fun H8 l2 s8 hl2 => ?_⟩
      refine ⟨l2, _, rfl, hl2, fun gg gg0 hgg _ => ?_⟩
      have e1 : gg = 1 := Int.eq_one_of_dvd_one gg0 (hme hb1 gg hgg)
      rw [e1]
      have X8 := X7.same s8
      exact ⟨rfl, _, rfl, iteF ⟨⟨_, _, _, _, _, rfl⟩, X8.F, X8.T⟩⟩

end
end HL

namespace HL
open PySem PySem.Spec PyProof.Rows L2
open LamX (Tabs TabS TabB LawAtS)
/-- whether an error of the class T is what an except clause of S takes -/
theorem exm_by {K : PySem.W.Frag} {S T : Addr} {b : Bool} (h1 : PySem.W.subIn K (.ref S) (.type "BaseException") = some true) (h2 : PySem.W.isClsIn K S = true) (h3 : PySem.W.typeIn K (.ref S) = some (.type "type"))
    (h4 : PySem.W.subIn K (.ref T) (.ref S) = some b) : PySem.W.exmOne K (.ref T) (.ref S) = some b := by
  have e1 : (PySem.W.subIn K (.ref S) (.type "BaseException") == some true) = true := by rw [h1] <;> rfl
  have e2 : ((PySem.W.clsIn K S).isSome && PySem.W.typeIn K (.ref S) == some (.type "type")) = true := by
    have h2' : (PySem.W.clsIn K S).isSome = true := h2
    rw [h2', h3] <;> rfl
  show (if (PySem.W.subIn K (.ref S) (.type "BaseException") == some true) = true then (if ((PySem.W.clsIn K S).isSome && PySem.W.typeIn K (.ref S) == some (.type "type")) = true then PySem.W.subIn K (.ref T) (.ref S) else none) else none) = some b
  rw [if_pos e1, if_pos e2]
  exact h4
theorem rev_vals {zs : List V} {ws : List Value} (r : Vals zs ws) : Vals zs.reverse ws.reverse := by
  induction r with
  | nil => exact .nil
  | cons r t ih =>
    rw [List.reverse_cons, List.reverse_cons]
    exact ih.append (.cons r .nil)
theorem all_mk {l : PySem.W.OpenLaw} {w : World} {K : PySem.W.Frag} {h : Heap} {mg : Str → Option Value} {fa : Addr} (X : K.In h) (G : h.Ns mainGlobals mg) (hfa : mg "law" = some (.ref fa))
    {f0 : Addr} {oc0 kV0 dc0 pm0 cd0 ct0 : Value} {od0 an0 : Option Addr} {sl0 : Array (Option Value)}
    {f1 : Addr} {oc1 kV1 dc1 pm1 cd1 ct1 : Value} {od1 an1 : Option Addr} {sl1 : Array (Option Value)}
    {f2 : Addr} {oc2 kV2 dc2 pm2 cd2 ct2 : Value} {od2 an2 : Option Addr} {sl2 : Array (Option Value)}
    {f3 : Addr} {oc3 kV3 dc3 pm3 cd3 ct3 : Value} {od3 an3 : Option Addr} {sl3 : Array (Option Value)}
    {f4 : Addr} {oc4 kV4 dc4 pm4 cd4 ct4 : Value} {od4 an4 : Option Addr} {sl4 : Array (Option Value)}
    {f5 : Addr} {oc5 kV5 dc5 pm5 cd5 ct5 : Value} {od5 an5 : Option Addr} {sl5 : Array (Option Value)}
    {f6 : Addr} {oc6 kV6 dc6 pm6 cd6 ct6 : Value} {od6 an6 : Option Addr} {sl6 : Array (Option Value)}
    {f7 : Addr} {oc7 kV7 dc7 pm7 cd7 ct7 : Value} {od7 an7 : Option Addr} {sl7 : Array (Option Value)}
    {f8 : Addr} {oc8 kV8 dc8 pm8 cd8 ct8 : Value} {od8 an8 : Option Addr} {sl8 : Array (Option Value)}
    {f9 : Addr} {oc9 kV9 dc9 pm9 cd9 ct9 : Value} {od9 an9 : Option Addr} {sl9 : Array (Option Value)}
    {f10 : Addr} {oc10 kV10 dc10 pm10 cd10 ct10 : Value} {od10 an10 : Option Addr} {sl10 : Array (Option Value)}
    {f11 : Addr} {oc11 kV11 dc11 pm11 cd11 ct11 : Value} {od11 an11 : Option Addr} {sl11 : Array (Option Value)}
    {f12 : Addr} {oc12 kV12 dc12 pm12 cd12 ct12 : Value} {od12 an12 : Option Addr} {sl12 : Array (Option Value)}
    {f13 : Addr} {oc13 kV13 dc13 pm13 cd13 ct13 : Value} {od13 an13 : Option Addr} {sl13 : Array (Option Value)}
    {f14 : Addr} {oc14 kV14 dc14 pm14 cd14 ct14 : Value} {od14 an14 : Option Addr} {sl14 : Array (Option Value)}
    {f15 : Addr} {oc15 kV15 dc15 pm15 cd15 ct15 : Value} {od15 an15 : Option Addr} {sl15 : Array (Option Value)}
    {f16 : Addr} {oc16 kV16 dc16 pm16 cd16 ct16 : Value} {od16 an16 : Option Addr} {sl16 : Array (Option Value)}
    {f17 : Addr} {oc17 kV17 dc17 pm17 cd17 ct17 : Value} {od17 an17 : Option Addr} {sl17 : Array (Option Value)}
    {fLe TLe : Addr} {ocLe kVLe dcLe pmLe cdLe ctLe ocTLe : Value} {odLe anLe odTLe : Option Addr} {slLe slTLe : Array (Option Value)} {tkLe : Tok} {nTLe : Nat}
    {fW ccW PW : Addr} {ocW kVW dcW pmW ctW : Value} {odW anW : Option Addr} {slW : Array (Option Value)}
    {fL : Addr} {ocL kVL dcL pmL cdvL ctL : Value} {odL anL : Option Addr} {slL : Array (Option Value)}
    {t6 : Tok}
    {t5 : Tok}
    {t3 : Tok}
    (hTabW : h.get? PW = some (PySem.W.tabObj #[]))
    (a0 : PySem.W.nsIn K mainGlobals "is_hold" = some (some (.ref f0)))
    (l0 : K.lookup f0 = some ⟨oc0, od0, .func (PySem.W.fnOf "is_hold" "is_hold" (defArgs sIsHold) (defBody sIsHold) (defScope sIsHold) .none kV0 dc0 pm0 an0 cd0 ct0), sl0⟩)
    (c0 : PySem.W.codeIn K cd0 "is_hold" = true)
    (k0 : PySem.W.keepIn K (.ref f0) = true)
    (a1 : PySem.W.nsIn K mainGlobals "look_lot" = some (some (.ref f1)))
    (l1 : K.lookup f1 = some ⟨oc1, od1, .func (PySem.W.fnOf "look_lot" "look_lot" (defArgs sLook) (defBody sLook) (defScope sLook) .none kV1 dc1 pm1 an1 cd1 ct1), sl1⟩)
    (c1 : PySem.W.codeIn K cd1 "look_lot" = true)
    (k1 : PySem.W.keepIn K (.ref f1) = true)
    (a2 : PySem.W.nsIn K mainGlobals "goods_of" = some (some (.ref f2)))
    (l2 : K.lookup f2 = some ⟨oc2, od2, .func (PySem.W.fnOf "goods_of" "goods_of" (defArgs sGoods) (defBody sGoods) (defScope sGoods) .none kV2 dc2 pm2 an2 cd2 ct2), sl2⟩)
    (c2 : PySem.W.codeIn K cd2 "goods_of" = true)
    (k2 : PySem.W.keepIn K (.ref f2) = true)
    (a3 : PySem.W.nsIn K mainGlobals "unit" = some (some (.ref f3)))
    (l3 : K.lookup f3 = some ⟨oc3, od3, .func (PySem.W.fnOf "unit" "unit" (defArgs sUnit) (defBody sUnit) (defScope sUnit) .none kV3 dc3 pm3 an3 cd3 ct3), sl3⟩)
    (c3 : PySem.W.codeIn K cd3 "unit" = true)
    (k3 : PySem.W.keepIn K (.ref f3) = true)
    (a4 : PySem.W.nsIn K mainGlobals "spanning" = some (some (.ref f4)))
    (l4 : K.lookup f4 = some ⟨oc4, od4, .func (PySem.W.fnOf "spanning" "spanning" (defArgs sSpan) (defBody sSpan) (defScope sSpan) .none kV4 dc4 pm4 an4 cd4 ct4), sl4⟩)
    (c4 : PySem.W.codeIn K cd4 "spanning" = true)
    (k4 : PySem.W.keepIn K (.ref f4) = true)
    (a5 : PySem.W.nsIn K mainGlobals "_law_feed" = some (some (.ref f5)))
    (l5 : K.lookup f5 = some ⟨oc5, od5, .func (PySem.W.fnOf "_law_feed" "_law_feed" (defArgs sFeed) (defBody sFeed) (defScope sFeed) .none kV5 dc5 pm5 an5 cd5 ct5), sl5⟩)
    (c5 : PySem.W.codeIn K cd5 "_law_feed" = true)
    (k5 : PySem.W.keepIn K (.ref f5) = true)
    (a6 : PySem.W.nsIn K mainGlobals "_law_draw" = some (some (.ref f6)))
    (l6 : K.lookup f6 = some ⟨oc6, od6, .func (PySem.W.fnOf "_law_draw" "_law_draw" (defArgs sDraw) (defBody sDraw) (defScope sDraw) .none kV6 dc6 pm6 an6 cd6 ct6), sl6⟩)
    (c6 : PySem.W.codeIn K cd6 "_law_draw" = true)
    (k6 : PySem.W.keepIn K (.ref f6) = true)
    (a7 : PySem.W.nsIn K mainGlobals "_law_hold" = some (some (.ref f7)))
    (l7 : K.lookup f7 = some ⟨oc7, od7, .func (PySem.W.fnOf "_law_hold" "_law_hold" (defArgs sHold) (defBody sHold) (defScope sHold) .none kV7 dc7 pm7 an7 cd7 ct7), sl7⟩)
    (c7 : PySem.W.codeIn K cd7 "_law_hold" = true)
    (k7 : PySem.W.keepIn K (.ref f7) = true)
    (a8 : PySem.W.nsIn K mainGlobals "_law_lot" = some (some (.ref f8)))
    (l8 : K.lookup f8 = some ⟨oc8, od8, .func (PySem.W.fnOf "_law_lot" "_law_lot" (defArgs sLot) (defBody sLot) (defScope sLot) .none kV8 dc8 pm8 an8 cd8 ct8), sl8⟩)
    (c8 : PySem.W.codeIn K cd8 "_law_lot" = true)
    (k8 : PySem.W.keepIn K (.ref f8) = true)
    (a9 : PySem.W.nsIn K mainGlobals "_law_small_lot" = some (some (.ref f9)))
    (l9 : K.lookup f9 = some ⟨oc9, od9, .func (PySem.W.fnOf "_law_small_lot" "_law_small_lot" (defArgs sSmall) (defBody sSmall) (defScope sSmall) .none kV9 dc9 pm9 an9 cd9 ct9), sl9⟩)
    (c9 : PySem.W.codeIn K cd9 "_law_small_lot" = true)
    (k9 : PySem.W.keepIn K (.ref f9) = true)
    (a10 : PySem.W.nsIn K mainGlobals "_law_good" = some (some (.ref f10)))
    (l10 : K.lookup f10 = some ⟨oc10, od10, .func (PySem.W.fnOf "_law_good" "_law_good" (defArgs sGood) (defBody sGood) (defScope sGood) .none kV10 dc10 pm10 an10 cd10 ct10), sl10⟩)
    (c10 : PySem.W.codeIn K cd10 "_law_good" = true)
    (k10 : PySem.W.keepIn K (.ref f10) = true)
    (a11 : PySem.W.nsIn K mainGlobals "_law_goods" = some (some (.ref f11)))
    (l11 : K.lookup f11 = some ⟨oc11, od11, .func (PySem.W.fnOf "_law_goods" "_law_goods" (defArgs sLGoods) (defBody sLGoods) (defScope sLGoods) .none kV11 dc11 pm11 an11 cd11 ct11), sl11⟩)
    (c11 : PySem.W.codeIn K cd11 "_law_goods" = true)
    (k11 : PySem.W.keepIn K (.ref f11) = true)
    (a12 : PySem.W.nsIn K mainGlobals "_law_noughts" = some (some (.ref f12)))
    (l12 : K.lookup f12 = some ⟨oc12, od12, .func (PySem.W.fnOf "_law_noughts" "_law_noughts" (defArgs sNoughts) (defBody sNoughts) (defScope sNoughts) .none kV12 dc12 pm12 an12 cd12 ct12), sl12⟩)
    (c12 : PySem.W.codeIn K cd12 "_law_noughts" = true)
    (k12 : PySem.W.keepIn K (.ref f12) = true)
    (a13 : PySem.W.nsIn K mainGlobals "_law_is_swap" = some (some (.ref f13)))
    (l13 : K.lookup f13 = some ⟨oc13, od13, .func (PySem.W.fnOf "_law_is_swap" "_law_is_swap" (defArgs sLIsSwap) (defBody sLIsSwap) (defScope sLIsSwap) .none kV13 dc13 pm13 an13 cd13 ct13), sl13⟩)
    (c13 : PySem.W.codeIn K cd13 "_law_is_swap" = true)
    (k13 : PySem.W.keepIn K (.ref f13) = true)
    (a14 : PySem.W.nsIn K mainGlobals "_law_det" = some (some (.ref f14)))
    (l14 : K.lookup f14 = some ⟨oc14, od14, .func (PySem.W.fnOf "_law_det" "_law_det" (defArgs sDet) (defBody sDet) (defScope sDet) .none kV14 dc14 pm14 an14 cd14 ct14), sl14⟩)
    (c14 : PySem.W.codeIn K cd14 "_law_det" = true)
    (k14 : PySem.W.keepIn K (.ref f14) = true)
    (a15 : PySem.W.nsIn K mainGlobals "_law_chosen" = some (some (.ref f15)))
    (l15 : K.lookup f15 = some ⟨oc15, od15, .func (PySem.W.fnOf "_law_chosen" "_law_chosen" (defArgs sChosen) (defBody sChosen) (defScope sChosen) .none kV15 dc15 pm15 an15 cd15 ct15), sl15⟩)
    (c15 : PySem.W.codeIn K cd15 "_law_chosen" = true)
    (k15 : PySem.W.keepIn K (.ref f15) = true)
    (a16 : PySem.W.nsIn K mainGlobals "_law_measure" = some (some (.ref f16)))
    (l16 : K.lookup f16 = some ⟨oc16, od16, .func (PySem.W.fnOf "_law_measure" "_law_measure" (defArgs sMeas) (defBody sMeas) (defScope sMeas) .none kV16 dc16 pm16 an16 cd16 ct16), sl16⟩)
    (c16 : PySem.W.codeIn K cd16 "_law_measure" = true)
    (k16 : PySem.W.keepIn K (.ref f16) = true)
    (a17 : PySem.W.nsIn K mainGlobals "_law_minors" = some (some (.ref f17)))
    (l17 : K.lookup f17 = some ⟨oc17, od17, .func (PySem.W.fnOf "_law_minors" "_law_minors" (defArgs sMinors) (defBody sMinors) (defScope sMinors) .none kV17 dc17 pm17 an17 cd17 ct17), sl17⟩)
    (c17 : PySem.W.codeIn K cd17 "_law_minors" = true)
    (k17 : PySem.W.keepIn K (.ref f17) = true)
    (aLe : PySem.W.nsIn K mainGlobals "less" = some (some (.ref fLe)))
    (lLe : K.lookup fLe = some ⟨ocLe, odLe, .func (PySem.W.fnOf "less" "less" (defArgs sLess) (defBody sLess) (defScope sLess) (.ref TLe) kVLe dcLe pmLe anLe cdLe ctLe), slLe⟩)
    (cLe : PySem.W.codeIn K cdLe "less" = true)
    (kLe : PySem.W.keepIn K (.ref fLe) = true)
    (lTLe : K.lookup TLe = some ⟨ocTLe, odTLe, .seq #[.int 1 tkLe] nTLe, slTLe⟩)
    (aW : PySem.W.nsIn K mainGlobals "with_one_at" = some (some (.ref fW)))
    (lW : K.lookup fW = some ⟨ocW, odW, .func (PySem.W.fnOf "with_one_at" "with_one_at" (defArgs sOneAt) (defBody sOneAt) (defScope sOneAt) .none kVW dcW pmW anW (.ref ccW) ctW), slW⟩)
    (cW : PySem.W.codeIn K (.ref ccW) "with_one_at" = true)
    (kW : PySem.W.keepIn K (.ref fW) = true)
    (nPW : K.lookup PW = none)
    (hdW : PySem.W.codeHdIn K ccW PW = true)
    (aL : PySem.W.nsIn K mainGlobals "law" = some (some (.ref fL)))
    (lL : K.lookup fL = some ⟨ocL, odL, .func (PySem.W.fnOf "law" "law" (defArgs sLaw) (defBody sLaw) (defScope sLaw) .none kVL dcL pmL anL cdvL ctL), slL⟩)
    (cdL : PySem.W.codeIn K cdvL "law" = true)
    (kL : PySem.W.keepIn K (.ref fL) = true)
    (v6 : PySem.W.nsIn K mainGlobals "MOST_HOLD" = some (some (.int 6 t6)))
    (v5 : PySem.W.nsIn K mainGlobals "MOST_KINDS" = some (some (.int 5 t5)))
    (v3 : PySem.W.nsIn K mainGlobals "MOST_GOODS" = some (some (.int 3 t3)))
    (z_len : PySem.W.nsIn K mainGlobals "len" = some none)
    (z_list : PySem.W.nsIn K mainGlobals "list" = some none)
    (z_tuple : PySem.W.nsIn K mainGlobals "tuple" = some none)
    (z_dict : PySem.W.nsIn K mainGlobals "dict" = some none)
    (z_str : PySem.W.nsIn K mainGlobals "str" = some none)
    (z_int : PySem.W.nsIn K mainGlobals "int" = some none)
    (z_bool : PySem.W.nsIn K mainGlobals "bool" = some none)
    (z_isinstance : PySem.W.nsIn K mainGlobals "isinstance" = some none)
    (z_all : PySem.W.nsIn K mainGlobals "all" = some none)
    (z_range : PySem.W.nsIn K mainGlobals "range" = some none)
    (z_sum : PySem.W.nsIn K mainGlobals "sum" = some none)
    (z_min : PySem.W.nsIn K mainGlobals "min" = some none)
    (z_max : PySem.W.nsIn K mainGlobals "max" = some none)
    (z_enumerate : PySem.W.nsIn K mainGlobals "enumerate" = some none)
    (z_zip : PySem.W.nsIn K mainGlobals "zip" = some none)
    (z_sorted : PySem.W.nsIn K mainGlobals "sorted" = some none)
    (z_abs : PySem.W.nsIn K mainGlobals "abs" = some none)
    (z_any : PySem.W.nsIn K mainGlobals "any" = some none)
    : LawAtS l w K CX0 8 63 "_law_script" mg fa h := by
  have e := hfa.symm.trans (PySem.W.mg_of X G aL)
  cases e
  have F0 := fun_mk (st := sIsHold) l0 c0 k0
  have b0 := F0.binds (ps := ["hold", "goods"]) fun _ _ _ _ _ _ us hl => match us, hl with | [_, _], _ => rfl
  have g0 := PySem.W.mg_of X G a0
  have F1 := fun_mk (st := sLook) l1 c1 k1
  have b1 := F1.binds (ps := ["lot"]) fun _ _ _ _ _ _ us hl => match us, hl with | [_], _ => rfl
  have g1 := PySem.W.mg_of X G a1
  have F2 := fun_mk (st := sGoods) l2 c2 k2
  have b2 := F2.binds (ps := ["lot"]) fun _ _ _ _ _ _ us hl => match us, hl with | [_], _ => rfl
  have g2 := PySem.W.mg_of X G a2
  have F3 := fun_mk (st := sUnit) l3 c3 k3
  have b3 := F3.binds (ps := ["place", "many"]) fun _ _ _ _ _ _ us hl => match us, hl with | [_, _], _ => rfl
  have g3 := PySem.W.mg_of X G a3
  have F4 := fun_mk (st := sSpan) l4 c4 k4
  have b4 := F4.binds (ps := ["lot"]) fun _ _ _ _ _ _ us hl => match us, hl with | [_], _ => rfl
  have g4 := PySem.W.mg_of X G a4
  have F5 := fun_mk (st := sFeed) l5 c5 k5
  have b5 := F5.binds (ps := ["_law_script"]) fun _ _ _ _ _ _ us hl => match us, hl with | [_], _ => rfl
  have g5 := PySem.W.mg_of X G a5
  have F6 := fun_mk (st := sDraw) l6 c6 k6
  have b6 := F6.binds (ps := ["_law_feed_here", "_law_many"]) fun _ _ _ _ _ _ us hl => match us, hl with | [_, _], _ => rfl
  have g6 := PySem.W.mg_of X G a6
  have F7 := fun_mk (st := sHold) l7 c7 k7
  have b7 := F7.binds (ps := ["_law_feed_here", "_law_goods_here", "_law_most"]) fun _ _ _ _ _ _ us hl => match us, hl with | [_, _, _], _ => rfl
  have g7 := PySem.W.mg_of X G a7
  have F8 := fun_mk (st := sLot) l8 c8 k8
  have b8 := F8.binds (ps := ["_law_feed_here", "_law_goods_here", "_law_kinds", "_law_most"]) fun _ _ _ _ _ _ us hl => match us, hl with | [_, _, _, _], _ => rfl
  have g8 := PySem.W.mg_of X G a8
  have F9 := fun_mk (st := sSmall) l9 c9 k9
  have b9 := F9.binds (ps := ["_law_feed_here"]) fun _ _ _ _ _ _ us hl => match us, hl with | [_], _ => rfl
  have g9 := PySem.W.mg_of X G a9
  have F10 := fun_mk (st := sGood) l10 c10 k10
  have b10 := F10.binds (ps := ["_law_lot_here", "_law_counts", "_law_good_here"]) fun _ _ _ _ _ _ us hl => match us, hl with | [_, _, _], _ => rfl
  have g10 := PySem.W.mg_of X G a10
  have F11 := fun_mk (st := sLGoods) l11 c11 k11
  have b11 := F11.binds (ps := ["_law_lot_here", "_law_counts"]) fun _ _ _ _ _ _ us hl => match us, hl with | [_, _], _ => rfl
  have g11 := PySem.W.mg_of X G a11
  have F12 := fun_mk (st := sNoughts) l12 c12 k12
  have b12 := F12.binds (ps := ["_law_many"]) fun _ _ _ _ _ _ us hl => match us, hl with | [_], _ => rfl
  have g12 := PySem.W.mg_of X G a12
  have F13 := fun_mk (st := sLIsSwap) l13 c13 k13
  have b13 := F13.binds (ps := ["_law_lot_here", "_law_row"]) fun _ _ _ _ _ _ us hl => match us, hl with | [_, _], _ => rfl
  have g13 := PySem.W.mg_of X G a13
  have F14 := fun_mk (st := sDet) l14 c14 k14
  have b14 := F14.binds (ps := ["_law_rows"]) fun _ _ _ _ _ _ us hl => match us, hl with | [_], _ => rfl
  have g14 := PySem.W.mg_of X G a14
  have F15 := fun_mk (st := sChosen) l15 c15 k15
  have b15 := F15.binds (ps := ["_law_some", "_law_many"]) fun _ _ _ _ _ _ us hl => match us, hl with | [_, _], _ => rfl
  have g15 := PySem.W.mg_of X G a15
  have F16 := fun_mk (st := sMeas) l16 c16 k16
  have b16 := F16.binds (ps := ["_law_numbers"]) fun _ _ _ _ _ _ us hl => match us, hl with | [_], _ => rfl
  have g16 := PySem.W.mg_of X G a16
  have F17 := fun_mk (st := sMinors) l17 c17 k17
  have b17 := F17.binds (ps := ["_law_rows", "_law_many"]) fun _ _ _ _ _ _ us hl => match us, hl with | [_, _], _ => rfl
  have g17 := PySem.W.mg_of X G a17
  have FLe : FunD K "less" "less" (defArgs sLess) (defBody sLess) (defScope sLess) [.int 1] [] fLe (PySem.W.fnOf "less" "less" (defArgs sLess) (defBody sLess) (defScope sLess) (.ref TLe) kVLe dcLe pmLe anLe cdLe ctLe) :=
    ⟨⟨ocLe, odLe, .ref TLe, kVLe, dcLe, pmLe, anLe, cdLe, ctLe, slLe, rfl, lLe, cLe, .inr ⟨by simp, TLe, _, [.int 1 tkLe], nTLe, rfl, lTLe, rfl, .cons ⟨_, rfl⟩ .nil⟩, .inl rfl⟩, kLe⟩
  obtain ⟨dsLe, rdLe, bLe⟩ := FLe.binds1 (ps := ["row", "other", "times"]) 2 0 (by simp) rfl (fun T kV doc pm an cdv ct us its h1 h2 => by
    match us, its, h1, h2 with
    | [u0, u1], [k1], _, _ => exact ⟨_, rfl, rfl⟩)
  obtain ⟨ttLe, edLe⟩ : ∃ t, dsLe = [.int 1 t] := by
    cases rdLe with
    | cons r t =>
      cases t
      obtain ⟨q, rfl⟩ := r
      exact ⟨q, rfl⟩
  subst edLe
  obtain ⟨dzLe, rzLe, bzLe⟩ := FLe.binds1 (ps := ["row", "other", "times"]) 3 1 (by simp) rfl (fun T kV doc pm an cdv ct us its h1 h2 => by
    match us, its, h1, h2 with
    | [u0, u1, u2], [k1], _, _ => exact ⟨_, rfl, rfl⟩)
  have ezLe : dzLe = [] := by
    cases rzLe
    rfl
  subst ezLe
  have FW := fun_mk (st := sOneAt) lW cW kW
  have bW := FW.binds (ps := ["rows", "place"]) fun _ _ _ _ _ _ us hl => match us, hl with | [_, _], _ => rfl
  have gW := PySem.W.mg_of X G aW
  have FL := fun_mk (st := sLaw) lL cdL kL
  have B : Bl mg := ⟨PySem.W.mg_none_of X G z_len, PySem.W.mg_none_of X G z_list, PySem.W.mg_none_of X G z_tuple, PySem.W.mg_none_of X G z_dict, PySem.W.mg_none_of X G z_str, PySem.W.mg_none_of X G z_int, PySem.W.mg_none_of X G z_bool, PySem.W.mg_none_of X G z_isinstance, PySem.W.mg_none_of X G z_all, PySem.W.mg_none_of X G z_range, PySem.W.mg_none_of X G z_sum, PySem.W.mg_none_of X G z_min, PySem.W.mg_none_of X G z_max, PySem.W.mg_none_of X G z_enumerate⟩
  have M : Consts mg := ⟨⟨_, PySem.W.mg_of X G v6⟩, ⟨_, PySem.W.mg_of X G v5⟩, ⟨_, PySem.W.mg_of X G v3⟩⟩
  refine ⟨PySem.W.fnOf "law" "law" (defArgs sLaw) (defBody sLaw) (defScope sLaw) .none kVL dcL pmL anL cdvL ctL, [(ccW, PW)], spLaw K PW, fun p hp => ?_, fun p hp => ?_, fun p hp => ?_, fun s u => .of_eq rfl, fun H a ns hl _ hH hS => ⟨a, ns, rfl, hS, hl, fun p hp => ?_, fun _ => rfl⟩, fun base KB GB TB => ?_⟩
  · rw [List.mem_singleton.mp hp]; exact hTabW
  · rw [List.mem_singleton.mp hp]; exact nPW
  · rw [List.mem_singleton.mp hp]; exact PySem.W.codeHd_of_K X hdW
  · rw [List.mem_singleton.mp hp]; exact TabS.nil (hH (ccW, PW) List.mem_cons_self)
  · have Tb := TB (ccW, PW) List.mem_cons_self
    have cDraw : Cal l.prog w K mg base CX0 1 "_law_draw" ["_law_feed_here", "_law_many"] spDraw := ⟨⟨f6, _, ok_draw F6 B.len, g6, k6, b6⟩⟩
    have cHold : Cal l.prog w K mg base CX0 2 "_law_hold" ["_law_feed_here", "_law_goods_here", "_law_most"] spHold := ⟨⟨f7, _, ok_hold F7 B cDraw, g7, k7, b7⟩⟩
    have cLot : Cal l.prog w K mg base CX0 3 "_law_lot" ["_law_feed_here", "_law_goods_here", "_law_kinds", "_law_most"] spLot := ⟨⟨f8, _, ok_lot F8 B cDraw cHold, g8, k8, b8⟩⟩
    have cIH : Cal l.prog w K mg base CX0 1 "is_hold" ["hold", "goods"] spIsHold := ⟨⟨f0, _, ok_isHold F0 B M, g0, k0, b0⟩⟩
    have cLk : Cal l.prog w K mg base CX0 2 "look_lot" ["lot"] spLook0 := ⟨⟨f1, _, ok_look0 F1 B M cIH, g1, k1, b1⟩⟩
    have cGo : Cal l.prog w K mg base CX0 3 "goods_of" ["lot"] spGoods0 := ⟨⟨f2, _, ok_goods0 F2 B cLk, g2, k2, b2⟩⟩
    have cUn : Cal l.prog w K mg base CX0 1 "unit" ["place", "many"] spUnit := ⟨⟨f3, _, ok_unit F3, g3, k3, b3⟩⟩
    have cLe : CalLess l.prog w K mg base := ⟨fLe, _, ok_less FLe B (PySem.W.mg_none_of X G z_zip), PySem.W.mg_of X G aLe, kLe, bzLe⟩
    have hTw : ∀ p ∈ [(PW, qW)], p.1 = PW → p.2 = qW := fun p hp e => by
      rw [List.mem_singleton.mp hp]
    have cOA : Cal l.prog w K mg base CX0 5 "with_one_at" ["rows", "place"] (spOneAt [(PW, qW)]) := ⟨⟨fW, _, ok_oneAt List.mem_cons_self hTw lW cW Tb B (PySem.W.mg_none_of X G z_sorted) (PySem.W.mg_none_of X G z_abs) cLe, gW, kW, bW⟩⟩
    have cGd : Cal l.prog w K mg base CX0 1 "_law_good" ["_law_lot_here", "_law_counts", "_law_good_here"] spGood := ⟨⟨f10, _, ok_good F10 B, g10, k10, b10⟩⟩
    have cGs : Cal l.prog w K mg base CX0 2 "_law_goods" ["_law_lot_here", "_law_counts"] spLGoods := ⟨⟨f11, _, ok_lGoods F11 B cGd, g11, k11, b11⟩⟩
    have cNo : Cal l.prog w K mg base CX0 1 "_law_noughts" ["_law_many"] spNoughts := ⟨⟨f12, _, ok_noughts F12, g12, k12, b12⟩⟩
    have cCh : Cal l.prog w K mg base CX0 1 "_law_chosen" ["_law_some", "_law_many"] spChosen := ⟨⟨f15, _, ok_chosen F15 B, g15, k15, b15⟩⟩
    have cDe : Cal l.prog w K mg base CX0 5 "_law_det" ["_law_rows"] spDetA := ⟨⟨f14, _, ok_detA F14 B g14 b14, g14, k14, b14⟩⟩
    have T : Txt l.prog w K mg base PW := {
        B := B
        any := (PySem.W.mg_none_of X G z_any)
        feed := ⟨⟨f5, _, ok_feed F5 B.list, g5, k5, b5⟩⟩
        sm := ⟨⟨f9, _, ok_small F9 cDraw cLot, g9, k9, b9⟩⟩
        sp := ⟨⟨f4, _, ok_span F4 B cGo cUn cOA, g4, k4, b4⟩⟩
        is := ⟨⟨f13, _, ok_lIsSw F13 B (PySem.W.mg_none_of X G z_any) cGs cNo, g13, k13, b13⟩⟩
        mi := ⟨⟨f17, _, ok_minors F17 B cCh cDe, g17, k17, b17⟩⟩
        me := ⟨⟨f16, _, ok_meas F16 B (PySem.W.mg_none_of X G z_abs), g16, k16, b16⟩⟩ }
    exact ok_law FL T
end HL

open PySem PySem.W PyProof.Rows
set_option maxHeartbeats 0 in
theorem PySem.Challenge.cw_hamperlot_k19_whole_spanning_swaps_holds : PySem.Challenge.rw_hamperlot_k19_whole_spanning_swaps.Holds := by
  w_on; o_law; k_head; (case hw => w_witness2)
  k_fill
  refine LamX.walk_ofTs (l := PySem.Challenge.rw_hamperlot_k19_whole_spanning_swaps) (n := 63) (k := 8) (x := "_law_script") (CX := fun _ => L2.CX0) rfl (by decide) rfl ⟨rfl, by decide, by decide⟩ (fun w h Y => PySem.W.km_in_of Y) ?F (fun _ _ _ _ _ h => h)
  case F =>
    intro w mg fa h Y KX G hmg
    refine' HL.all_mk KX G hmg (PySem.W.km_tabs_of Y _ (List.mem_cons_self))  ?a0 ?l0 ?c0 ?k0 ?a1 ?l1 ?c1 ?k1 ?a2 ?l2 ?c2 ?k2 ?a3 ?l3 ?c3 ?k3 ?a4 ?l4 ?c4 ?k4 ?a5 ?l5 ?c5 ?k5 ?a6 ?l6 ?c6 ?k6 ?a7 ?l7 ?c7 ?k7 ?a8 ?l8 ?c8 ?k8 ?a9 ?l9 ?c9 ?k9 ?a10 ?l10 ?c10 ?k10 ?a11 ?l11 ?c11 ?k11 ?a12 ?l12 ?c12 ?k12 ?a13 ?l13 ?c13 ?k13 ?a14 ?l14 ?c14 ?k14 ?a15 ?l15 ?c15 ?k15 ?a16 ?l16 ?c16 ?k16 ?a17 ?l17 ?c17 ?k17 ?aLe ?lLe ?cLe ?kLe ?lTLe ?aW ?lW ?cW ?kW ?nPW ?hdW ?aL ?lL ?cdL ?kL ?v6 ?v5 ?v3 ?z_len ?z_list ?z_tuple ?z_dict ?z_str ?z_int ?z_bool ?z_isinstance ?z_all ?z_range ?z_sum ?z_min ?z_max ?z_enumerate ?z_zip ?z_sorted ?z_abs ?z_any
    (case a0 => first | k_is | rfl)
    (case l0 => first | k_is | rfl)
    (case c0 => first | k_is | rfl)
    (case k0 => first | k_is | rfl)
    (case a1 => first | k_is | rfl)
    (case l1 => first | k_is | rfl)
    (case c1 => first | k_is | rfl)
    (case k1 => first | k_is | rfl)
    (case a2 => first | k_is | rfl)
    (case l2 => first | k_is | rfl)
    (case c2 => first | k_is | rfl)
    (case k2 => first | k_is | rfl)
    (case a3 => first | k_is | rfl)
    (case l3 => first | k_is | rfl)
    (case c3 => first | k_is | rfl)
    (case k3 => first | k_is | rfl)
    (case a4 => first | k_is | rfl)
    (case l4 => first | k_is | rfl)
    (case c4 => first | k_is | rfl)
    (case k4 => first | k_is | rfl)
    (case a5 => first | k_is | rfl)
    (case l5 => first | k_is | rfl)
    (case c5 => first | k_is | rfl)
    (case k5 => first | k_is | rfl)
    (case a6 => first | k_is | rfl)
    (case l6 => first | k_is | rfl)
    (case c6 => first | k_is | rfl)
    (case k6 => first | k_is | rfl)
    (case a7 => first | k_is | rfl)
    (case l7 => first | k_is | rfl)
    (case c7 => first | k_is | rfl)
    (case k7 => first | k_is | rfl)
    (case a8 => first | k_is | rfl)
    (case l8 => first | k_is | rfl)
    (case c8 => first | k_is | rfl)
    (case k8 => first | k_is | rfl)
    (case a9 => first | k_is | rfl)
    (case l9 => first | k_is | rfl)
    (case c9 => first | k_is | rfl)
    (case k9 => first | k_is | rfl)
    (case a10 => first | k_is | rfl)
    (case l10 => first | k_is | rfl)
    (case c10 => first | k_is | rfl)
    (case k10 => first | k_is | rfl)
    (case a11 => first | k_is | rfl)
    (case l11 => first | k_is | rfl)
    (case c11 => first | k_is | rfl)
    (case k11 => first | k_is | rfl)
    (case a12 => first | k_is | rfl)
    (case l12 => first | k_is | rfl)
    (case c12 => first | k_is | rfl)
    (case k12 => first | k_is | rfl)
    (case a13 => first | k_is | rfl)
    (case l13 => first | k_is | rfl)
    (case c13 => first | k_is | rfl)
    (case k13 => first | k_is | rfl)
    (case a14 => first | k_is | rfl)
    (case l14 => first | k_is | rfl)
    (case c14 => first | k_is | rfl)
    (case k14 => first | k_is | rfl)
    (case a15 => first | k_is | rfl)
    (case l15 => first | k_is | rfl)
    (case c15 => first | k_is | rfl)
    (case k15 => first | k_is | rfl)
    (case a16 => first | k_is | rfl)
    (case l16 => first | k_is | rfl)
    (case c16 => first | k_is | rfl)
    (case k16 => first | k_is | rfl)
    (case a17 => first | k_is | rfl)
    (case l17 => first | k_is | rfl)
    (case c17 => first | k_is | rfl)
    (case k17 => first | k_is | rfl)
    (case aLe => first | k_is | rfl)
    (case lLe => first | k_is | rfl)
    (case cLe => first | k_is | rfl)
    (case kLe => first | k_is | rfl)
    (case lTLe => first | k_is | rfl)
    (case aW => first | k_is | rfl)
    (case lW => first | k_is | rfl)
    (case cW => first | k_is | rfl)
    (case kW => first | k_is | rfl)
    (case nPW => first | k_is | rfl)
    (case hdW => first | k_is | rfl)
    (case aL => first | k_is | rfl)
    (case lL => first | k_is | rfl)
    (case cdL => first | k_is | rfl)
    (case kL => first | k_is | rfl)
    (case v6 => first | k_is | rfl)
    (case v5 => first | k_is | rfl)
    (case v3 => first | k_is | rfl)
    (case z_len => first | k_is | rfl)
    (case z_list => first | k_is | rfl)
    (case z_tuple => first | k_is | rfl)
    (case z_dict => first | k_is | rfl)
    (case z_str => first | k_is | rfl)
    (case z_int => first | k_is | rfl)
    (case z_bool => first | k_is | rfl)
    (case z_isinstance => first | k_is | rfl)
    (case z_all => first | k_is | rfl)
    (case z_range => first | k_is | rfl)
    (case z_sum => first | k_is | rfl)
    (case z_min => first | k_is | rfl)
    (case z_max => first | k_is | rfl)
    (case z_enumerate => first | k_is | rfl)
    (case z_zip => first | k_is | rfl)
    (case z_sorted => first | k_is | rfl)
    (case z_abs => first | k_is | rfl)
    (case z_any => first | k_is | rfl)

