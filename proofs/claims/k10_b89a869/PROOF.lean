import PyProof.Rows.All
import Wide.All
import OpenK.AllK
import Wide.FinOn
import PySem.Challenge.RW_hamperlot_k10_whole_counts_by_halves
import HandS.ForMost
import HandS.Exc
import HandS.TryOnly
import HandS.ExcInit
import HandS.ExcField
import HandS.WordsExc
import HandS.Lambda
import HandS.EndTab
import HandS.IsInst
import HandS.TupMul
import HandS.TupAny
import HandS.Walk
import HandS.Defaults
import KE.KTupSum
import KE.DatumOrd
import KE.GoesEnum
import HandS.TryMany
import HandS.Wide
import HandS.Zip
import HandS.SortInts
import HandS.Conv
import KE.KEqSeq
import HandS.Rev
import HandS.Style
import KE.KNestM
set_option Elab.async false
set_option linter.all false
set_option maxRecDepth 100000
set_option maxHeartbeats 4000000
/-! Rules of one's own beside the layer's: sum, max, min of a tuple of ints; enumerate of a tuple; a tuple times 1. -/
namespace HL
open PySem PySem.Spec PyProof.Rows L2
section
variable {X : Cx}
theorem tupI {pins : List (Addr × Obj)} {σ : L2.St} {H : Hp} {s : Shared} {a : Addr} {ns : List Int} (I : Inv X pins σ H s) (h : SqT X.K H a (ns.map V.int)) :
    ∃ its : List Value, IntsAre its ns ∧ s.heap.IsTuple a its.toArray := by
  obtain ⟨its, rv, ⟨o, ho, hc, n, hd⟩, _⟩ := I.tuple h
  exact ⟨its, rv.ints, o, ho, hc, n, hd⟩
/-- sum(t) -/
def rSumT (K : PySem.W.Frag) : List V → Hp → VK → Prop := fun vs H Q =>
  ∃ (a : Addr) (ns : List Int), vs = [V.ref a] ∧ SqT K H a (ns.map V.int) ∧ Q (.int ns.sum) H
theorem cr_sumT (hc : X.calm = true) : CallR X (.builtin "sum") (rSumT X.K) := by
  intro pins s σ H vs us Q I r h
  obtain ⟨a, ns, rfl, hs, q⟩ := h
  obtain ⟨its, hi, hl⟩ := tupI I hs
  rw [Vals.ref1 r]
  obtain ⟨xs, e⟩ := hi.allInts.items
  have hn : numsOf (intItems xs).toList = ns := by
    rw [← e]
    exact hi.numsOf
  rw [nums_intItems] at hn
  rw [e] at hl
  refine PySem.W.ktm_sumG (I.ok.hd hc) hl fun h' tk t' hk => ?_
  rw [preSum_eq]
  rw [List.take_of_length_le (by simp), hn]
  exact ⟨.int _, H, I.kept hk, ⟨_, rfl⟩, q⟩
theorem maxOf_le (x : Int) (xs : List Int) : PySem.W.maxOf x xs ∈ x :: xs ∧ ∀ y ∈ x :: xs, y ≤ PySem.W.maxOf x xs := by
  induction xs generalizing x with
  | nil => exact ⟨List.mem_cons_self, fun y hy => by simp at hy; subst hy; exact Int.le_refl _⟩
  | cons z zs ih =>
    have e : PySem.W.maxOf x (z :: zs) = PySem.W.maxOf (if PySem.W.DatumOrd.lt x z = true then z else x) zs := rfl
    have d : (PySem.W.DatumOrd.lt x z = true) ↔ x < z := by
      show decide (x < z) = true ↔ x < z
      exact decide_eq_true_iff
    rw [e]
    by_cases c : x < z
    · rw [if_pos (d.mpr c)]
      obtain ⟨h1, h2⟩ := ih z
      refine ⟨List.mem_cons_of_mem _ h1, fun y hy => ?_⟩
      rcases List.mem_cons.mp hy with r | r
      · have := h2 z List.mem_cons_self
        omega
      · exact h2 y r
    · rw [if_neg (fun q => c (d.mp q))]
      obtain ⟨h1, h2⟩ := ih x
      refine ⟨?_, fun y hy => ?_⟩
      · rcases List.mem_cons.mp h1 with r | r
        · rw [r]; exact List.mem_cons_self
        · exact List.mem_cons_of_mem _ (List.mem_cons_of_mem _ r)
      · rcases List.mem_cons.mp hy with r | r
        · have := h2 x List.mem_cons_self
          omega
        · rcases List.mem_cons.mp r with r | r
          · have := h2 x List.mem_cons_self
            omega
          · exact h2 y (List.mem_cons_of_mem _ r)
theorem minOf_le (x : Int) (xs : List Int) : PySem.W.minOf x xs ∈ x :: xs ∧ ∀ y ∈ x :: xs, PySem.W.minOf x xs ≤ y := by
  induction xs generalizing x with
  | nil => exact ⟨List.mem_cons_self, fun y hy => by simp at hy; subst hy; exact Int.le_refl _⟩
  | cons z zs ih =>
    have e : PySem.W.minOf x (z :: zs) = PySem.W.minOf (if PySem.W.DatumOrd.lt z x = true then z else x) zs := rfl
    have d : (PySem.W.DatumOrd.lt z x = true) ↔ z < x := by
      show decide (z < x) = true ↔ z < x
      exact decide_eq_true_iff
    rw [e]
    by_cases c : z < x
    · rw [if_pos (d.mpr c)]
      obtain ⟨h1, h2⟩ := ih z
      refine ⟨List.mem_cons_of_mem _ h1, fun y hy => ?_⟩
      rcases List.mem_cons.mp hy with r | r
      · have := h2 z List.mem_cons_self
        omega
      · exact h2 y r
    · rw [if_neg (fun q => c (d.mp q))]
      obtain ⟨h1, h2⟩ := ih x
      refine ⟨?_, fun y hy => ?_⟩
      · rcases List.mem_cons.mp h1 with r | r
        · rw [r]; exact List.mem_cons_self
        · exact List.mem_cons_of_mem _ (List.mem_cons_of_mem _ r)
      · rcases List.mem_cons.mp hy with r | r
        · have := h2 x List.mem_cons_self
          omega
        · rcases List.mem_cons.mp r with r | r
          · have := h2 x List.mem_cons_self
            omega
          · exact h2 y (List.mem_cons_of_mem _ r)
/-- max(t), min(t) of ints -/
def rMaxT (K : PySem.W.Frag) : List V → Hp → VK → Prop := fun vs H Q =>
  ∃ (a : Addr) (ns : List Int), vs = [V.ref a] ∧ SqT K H a (ns.map V.int) ∧ 0 < ns.length ∧ ∀ m, m ∈ ns → (∀ y ∈ ns, y ≤ m) → Q (.int m) H
def rMinT (K : PySem.W.Frag) : List V → Hp → VK → Prop := fun vs H Q =>
  ∃ (a : Addr) (ns : List Int), vs = [V.ref a] ∧ SqT K H a (ns.map V.int) ∧ 0 < ns.length ∧ ∀ m, m ∈ ns → (∀ y ∈ ns, m ≤ y) → Q (.int m) H
theorem int_of_holds {h : Heap} {v : Value} {x : Int} (H : PySem.W.Holds h v x) : ∃ t, v = Value.int x t := by
  have z := PySem.W.HoldAll.toInts (PySem.W.HoldAll.cons H PySem.W.HoldAll.nil)
  cases z with
  | cons n t z => exact ⟨t, rfl⟩
theorem cr_maxT (hc : X.calm = true) (hu : X.A.units + 64 < cLine) : CallR X (.builtin "max") (rMaxT X.K) := by
  intro pins s σ H vs us Q I r h
  obtain ⟨a, ns, rfl, hs, hne, q⟩ := h
  obtain ⟨its, hi, hl⟩ := tupI I hs
  rw [Vals.ref1 r]
  cases ns with
  | nil => simp at hne
  | cons x xs =>
    refine PySem.W.max_tuple_datum (x := x) (xs := xs) (I.ok.hd hc) hl (PySem.W.HoldAll.of_ints (by simpa using hi)) (by show X.A.units + 1 + 0 < cLine; omega) fun i v h' tk _ hv hk => ?_
    obtain ⟨t, rfl⟩ := int_of_holds hv
    obtain ⟨h1, h2⟩ := maxOf_le x xs
    exact ⟨.int _, H, I.kept hk, ⟨_, rfl⟩, q _ h1 h2⟩
theorem cr_minT (hc : X.calm = true) (hu : X.A.units + 64 < cLine) : CallR X (.builtin "min") (rMinT X.K) := by
  intro pins s σ H vs us Q I r h
  obtain ⟨a, ns, rfl, hs, hne, q⟩ := h
  obtain ⟨its, hi, hl⟩ := tupI I hs
  rw [Vals.ref1 r]
  cases ns with
  | nil => simp at hne
  | cons x xs =>
    refine PySem.W.min_tuple_datum (x := x) (xs := xs) (I.ok.hd hc) hl (PySem.W.HoldAll.of_ints (by simpa using hi)) (by show X.A.units + 1 + 0 < cLine; omega) fun i v h' tk _ hv hk => ?_
    obtain ⟨t, rfl⟩ := int_of_holds hv
    obtain ⟨h1, h2⟩ := minOf_le x xs
    exact ⟨.int _, H, I.kept hk, ⟨_, rfl⟩, q _ h1 h2⟩
end
end HL

namespace HL
open PySem PySem.Spec PyProof.Rows L2
open AutoSeq1 (wpAny_loadPart')
/-! enumerate(t), t a tuple -/
abbrev oIt (t : Addr) : Obj := { cls := .type "tuple_iterator", data := .fields #[.ref t, .int 0 0] }
abbrev oEn (i : Addr) : Obj := { cls := .type "enumerate", data := .fields #[.none, .bool false, .ref i, rawInt 0, .none, .none] }
theorem meets_enumT (t : Addr) (items : Array Value) (o : Obj) (tyE : ∀ h : Heap, h.get? t = some o → h.IsTuple t items) :
    Meets (Builtin.«enumerate.__new__» ⟨[.type "enumerate", .ref t], []⟩)
      (fun _ R s => s.heap.get? t = some o ∧ R (.ok (.ret (.ref (s.heap.push (oIt t)).objs.size))) { s with heap := (s.heap.push (oIt t)).push (oEn s.heap.objs.size) }) :=
  .of_wp fun prog w A R s h => by
    obtain ⟨hp, g, d, tk, os⟩ := s
    obtain ⟨hl, h⟩ := h
    have hsub := sub_enumerate
    have hL : Heap.IsTuple (Shared.heap ⟨hp, g, d, tk, os⟩) t items := tyE _ hl
    wp_walk using wpAny_loadPart' hl
    refine wpAny_stack_any fun stk => wpAny_pure ?_
    split
    · rename_i c _ _ _ _ _
      cases (c == Value.type "enumerate") <;> (wp_walk using wpAny_loadPart' hl, wpAny_pyIter_tuple hL; exact ⟨_, rfl, h⟩)
    · wp_walk using wpAny_loadPart' hl, wpAny_pyIter_tuple hL
      exact ⟨_, rfl, h⟩
theorem call_enumT {prog : Program} {w : World} {A : Around} {E : Value → Shared → Prop} {s : Shared} {t : Addr} {items : Array Value} {Q : Value → Shared → Prop} (hL : s.heap.IsTuple t items)
    (h : ∀ h', IsEnum h' (s.heap.objs.size + 1) s.heap.objs.size 0 .none → h'.IsTupleIter s.heap.objs.size t 0 →
      (∀ b o, s.heap.get? b = some o → h'.get? b = some o) → Q (.ref (s.heap.objs.size + 1)) { s with heap := h' }) :
    wpAny (model prog w) A (call (.type "enumerate") [.ref t]) Q E s := by
  obtain ⟨o, hl, hc, n, hd⟩ := hL
  refine callType_new F.called_enumerate (by decide) (F.typeCall_enumerate_1 _) (F.newCall_enumerate_1 _) (fun obj => F.args_object_init_2 obj _) F.entry_enumerate_new
    (meets_enumT t items o fun h' e => ⟨o, e, hc, n, hd⟩) ⟨hl, ?_⟩
  have hz : (s.heap.push (oIt t)).objs.size = s.heap.objs.size + 1 := Heap.size_push ..
  show _ ∧ _
  rw [hz]
  have hen : IsEnum ((s.heap.push (oIt t)).push (oEn s.heap.objs.size)) (s.heap.objs.size + 1) s.heap.objs.size 0 .none := by
    have q := Heap.get?_push_size (s.heap.push (oIt t)) (o := oEn s.heap.objs.size) rfl
    rw [hz] at q
    exact q
  exact ⟨⟨_, hen, rfl⟩, h _ hen ⟨_, Heap.get?_push_of_some _ (Heap.get?_push_size _ rfl), rfl, rfl⟩ fun b o x => Heap.get?_push_of_some _ (Heap.get?_push_of_some _ x)⟩
theorem enum_endT {prog : Program} {w : World} {A : Around} {E : Value → Shared → Prop} {s : Shared} {e it t : Addr} {i : Nat} {items : Array Value} {old : Value} {Q : Option Value → Shared → Prop}
    (hh : A.handled = none) (hen : IsEnum s.heap e it i old) (hit : s.heap.IsTupleIter it t i) (hl : s.heap.IsTuple t items) (hx : items[i]? = none)
    (wish : ∀ h', Heap.ExtBut it s.heap h' → Q none { s with heap := h' }) : wpAny (model prog w) A (pyNext (.ref e)) Q E s := by
  have tyE : s.TypeIs (.ref e) "enumerate" := ⟨_, hen, rfl⟩
  unfold pyNext
  refine wpAny_bind (wpAny_attempt (wpAny_callSpecial?_slot (name := Str.ofString "__next__") tyE F.slot_enumerate_next (wpAny_call_entry F.slot_enumerate_next tyE F.entry_enumerate_next ?_ (F.args_enumerate_next_1 _))))
  show wpAny _ _ (field (.ref e) 2 >>= _) _ _ _
  refine wpAny_bind (wpAny_field hen rfl (x := .ref it) rfl (wpAny_bind (wpAny_nextOf_tuple_end hh hit hl hx fun h' x hen' hx' => ?_)))
  obtain ⟨o, ho, hc⟩ := hx'
  exact wpAny_bind (wpAny_isInstance (T := "StopIteration") (b := true) ⟨o, ho, hc⟩ isSubtype_stop (wpAny_pure (wish _ hen')))
/-- the tuple at a, each item in a new pair -/
def IteT (K : PySem.W.Frag) (a : Addr) : It where
  go := fun i H => ∃ (xs : List V) (x : V), SqT K H a xs ∧ xs[i]? = some x
  yld := fun i H v H' => ∃ T x, v = .ref T ∧ H T = none ∧ H' = upd H T (.tup [.int (i : Nat), x]) ∧ ∀ xs, SqT K H a xs → xs[i]? = some x
  stop := fun i H => ∃ xs : List V, SqT K H a xs ∧ xs.length ≤ i
theorem turn_enumT {P : Program} {w : World} {K : PySem.W.Frag} {elts : List Expr} {kk : Nat} {tpos : Pos} (a e it : Addr) (hai : a ≠ it) :
    Turn P w K (.Tuple elts kk tpos) (IteT K a) [e, it] e (fun i h => (∃ old, IsEnum h e it ((i : Nat) : Int) old) ∧ h.IsTupleIter it a i ∧ e ≠ it ∧ e ≠ a) where
  mem := by simp
  obj := fun i h sta b hb => by
    obtain ⟨⟨old, hen⟩, ⟨o, ho, hc, hd⟩, _⟩ := sta
    have e' : b = e ∨ b = it := by simpa using hb
    rcases e' with z | z
    · rw [z]
      exact ⟨_, hen, fun v q => nomatch q⟩
    · rw [z]
      exact ⟨o, ho, fun v q => by rw [hd] at q; cases q⟩
  keep := fun i h h' sta k => by
    obtain ⟨⟨old, hen⟩, hi, hne⟩ := sta
    exact ⟨⟨old, k e (by simp) _ hen⟩, hi.at fun o q => k it (by simp) o q, hne⟩
  item := by
    intro X hP hw hK hc i pins s σ H E I fpk sta hg
    subst hP hw hK
    obtain ⟨⟨old, hen⟩, hit, hne, hea⟩ := sta
    obtain ⟨xs, x, hq, hx⟩ := hg
    obtain ⟨its, rv, ⟨ot, hot, hct, nt, hdt⟩, hz⟩ := I.tuple hq
    have tyE : s.heap.IsTuple a its.toArray := ⟨ot, hot, hct, nt, hdt⟩
    obtain ⟨u, hu, ru⟩ := rv.get hx
    have hlt : i < its.toArray.size := by
      have := (List.getElem?_eq_some_iff.mp hu).1
      simpa using this
    have elt : e < s.heap.objs.size := Heap.lt_size hen
    have hil : it < s.heap.objs.size := by
      obtain ⟨_, q, _⟩ := hit
      exact Heap.lt_size q
    refine wpAny_pyNext_enum_itemD (Draws.tuple (A := X.A.in1) (I.ok.hd hc) it a hai its.toArray) hen ⟨hit, tyE⟩ hlt hne (by simp [hne, hea]) fun z h' tk hz' ho hit' hTn hsz kep => ?_
    have ez : z = u := by
      have q : its[i]? = some z := by simpa using hz'
      rw [hu] at q
      exact (Option.some.inj q).symm
    subst ez
    refine ⟨_, rfl, wpAny_letOwnedTupleGo_enum (s := { s with heap := h', toks := tk + 1 }) ho fun h'' hen' smb => ?_⟩
    have hT2 : h''.get? s.heap.objs.size = some { cls := .type "tuple", data := .seq #[.int i tk, z] } := (smb.2 _ (Nat.ne_of_gt elt)).trans hTn
    have new : ObjOk X.prog X.w (upd H s.heap.objs.size (.tup [.int (i : Nat), x])) h'' s.heap.objs.size (.tup [.int (i : Nat), x]) :=
      ⟨by show 2 ≤ sizeLine; decide, [.int i tk, z], .cons ⟨_, rfl⟩ (.cons ru .nil), ⟨_, hT2, rfl, _, rfl⟩⟩
    have I1 : Inv X pins σ (upd H s.heap.objs.size (.tup [.int (i : Nat), x])) { s with heap := h'', toks := tk + 1 } :=
      I.turnedNew (ch := [e, it]) (fun b ob hb q => (smb.2 b (fun z => hb (by simp [z]))).trans (kep b ob (fun z => hb (by simp [z])) (fun z => hb (by simp [z])) q)) fpk (Nat.le_refl _) new
    refine ⟨.ref s.heap.objs.size, _, I1, rfl, ⟨_, x, rfl, I.hok.fresh (Nat.le_refl _), rfl, fun ys hy => ?_⟩, ⟨⟨z, ?_⟩, hit'.1.at fun o q => (smb.2 it (Ne.symm hne)).trans q, hne, hea⟩, fun b hb => ?_⟩
    · rw [I.tuple_inj hy hq]
      exact hx
    · have eqi : ((i + 1 : Nat) : Int) = (i : Int) + 1 := by omega
      rw [eqi]
      exact hen'
    · have hb' : b < s.heap.objs.size := by
        have e' : b = e ∨ b = it := by simpa using hb
        rcases e' with z | z
        · rw [z]
          exact elt
        · rw [z]
          exact hil
      rw [upd_ne (Nat.ne_of_lt hb')]
      exact (fpk b hb).1
  done := by
    intro X hP hw hK hc i pins s σ H E I fpk sta hg
    subst hP hw hK
    obtain ⟨⟨old, hen⟩, hit, hne, hea⟩ := sta
    obtain ⟨xs, hq, hx⟩ := hg
    obtain ⟨its, rv, ⟨ot, hot, hct, nt, hdt⟩, hz⟩ := I.tuple hq
    obtain ⟨p0, p1, p2, p3, p4, p5⟩ := fpk it (by simp)
    have hl := rv.length
    refine enum_endT (I.ok.hd hc) hen hit ⟨ot, hot, hct, nt, hdt⟩ (by simp; omega) fun h' eb => ⟨rfl, I.turned (t' := s.toks) (fun b o hb q => eb b o hb q) p0 p1 p3 p4 p5⟩
  self := fun A i s Q E sta h => let ⟨⟨_, hen⟩, _⟩ := sta; wpAny_pyIter_enum hen h
def iEnumT (K : PySem.W.Frag) (ta : TA) : TI := fun σ H R => ta σ H fun vs H1 => ∃ a xs, vs = [.ref a] ∧ SqT K H1 a xs ∧ R (IteT K a) H1
theorem pi_enumT {X : Cx} {e : Expr} {ta : TA} {p pos tpos : Pos} {elts : List Expr} {kk : Nat} (hg : Gl X "enumerate") (hm : X.mg "enumerate" = none) (ha : PA X [e] ta)
    (hs : starEach [e] X.env = [(false, eval e X.env)] := by rfl) : PI X (.Tuple elts kk tpos) (.Call (.Name "enumerate" p) [e] [] pos) (iEnumT X.K ta) := by
  refine ⟨fun pins s σ H R I h => ?_⟩
  refine Call_ (ld_blt I hg hm boot_enumerate (PyProof.Rows.callWith_type1 (thn (ha.run pos pins s σ H _ I h) fun us sA ⟨vs, H1, I1, r1, q1⟩ => ?_) hs rfl))
  obtain ⟨a, xs, ex, hq, q⟩ := q1
  subst ex
  rw [Vals.ref1 r1]
  obtain ⟨its, rv, ⟨ot, hot, hct, nt, hdt⟩, hz⟩ := I1.tuple hq
  have hla : a < sA.heap.objs.size := Heap.lt_size hot
  refine call_enumT (items := its.toArray) ⟨ot, hot, hct, nt, hdt⟩ fun h' hen hit kep => wpAny_pyIter_enum hen ?_
  have JB : Inv X pins σ H1 { sA with heap := h' } := I1.kept (t' := sA.toks) kep
  refine ⟨sA.heap.objs.size + 1, [sA.heap.objs.size + 1, sA.heap.objs.size], _, _, H1, rfl, JB, turn_enumT a (sA.heap.objs.size + 1) sA.heap.objs.size (Nat.ne_of_lt hla),
    ⟨⟨.none, hen⟩, hit, Nat.succ_ne_self _, Nat.ne_of_gt (Nat.lt_succ_of_lt hla)⟩, fun b hb => ?_, q⟩
  have e' : b = sA.heap.objs.size + 1 ∨ b = sA.heap.objs.size := by simpa using hb
  have hle : sA.heap.objs.size ≤ b := by
    rcases e' with z | z
    · rw [z]
      exact Nat.le_add_right _ _
    · rw [z]
      exact Nat.le_refl _
  exact I1.fpOk hle (I1.hok.fresh hle)
end HL

namespace HL
open PySem PySem.Spec PyProof.Rows L2
open AutoSeq1 (wpAny_loadPart')
/-! t * k, k from 1 on: once is the tuple itself -/
theorem tuple_mul1 (l : Addr) (items : Array Value) (n : Nat) (dd : Option Addr) (sl : Array (Option Value)) (u : Tok) :
    Meets (Builtin.«tuple.__mul__» ⟨[.ref l, .int 1 u], []⟩)
      (fun _ R s => s.heap.get? l = some { cls := .type "tuple", dict := dd, data := .seq items n, slots := sl } ∧ R (.ok (.ret (.ref l))) s) :=
  .of_wp fun prog w A R s h => by
    obtain ⟨hp, g, d, tk, os⟩ := s
    obtain ⟨hl, h⟩ := h
    have f1 := AutoSeq1.idx_int
    have ht : Shared.TypeIs ⟨hp, g, d, tk, os⟩ (.ref l) "tuple" := ⟨_, hl, rfl⟩
    wp_walk using wpAny_loadPart' hl
    repeat (first
      | (refine wpAny_ite_false (by decide) ?_; wp_walk using wpAny_loadPart' hl)
      | (refine wpAny_ite_true (by cases items.isEmpty <;> decide) ?_; wp_walk using wpAny_loadPart' hl)
      | (refine wpAny_typeOf ht ?_; wp_walk using wpAny_loadPart' hl)
      | (refine wpAny_bind (wpAny_typeOf ht ?_); wp_walk using wpAny_loadPart' hl))
    exact ⟨_, rfl, h⟩
def rRepA (K : PySem.W.Frag) : R2 := fun x y H Q => ∃ l k xs, x = .ref l ∧ y = .int k ∧ SqT K H l xs ∧ xs ≠ [] ∧ 1 ≤ k ∧ k ≤ 1000 ∧ xs.length ≤ 1000 ∧
  (k = 1 → Q (.ref l) H) ∧ (k ≠ 1 → ∀ p, H p = none → Q (.ref p) (upd H p (.tup (List.replicate k.toNat xs).flatten)))
theorem op_repA {X : Cx} : OpR X (binaryOp .Mult) (rRepA X.K) := by
  intro pins s σ H x y v u Q I rx ry h
  obtain ⟨l, k, xs, rfl, rfl, hT, hne, h1, h2, hz, q1, q2⟩ := h
  by_cases hk : k = 1
  · subst hk
    have rx' := rx
    cases rx
    obtain ⟨t, rfl⟩ := ry
    obtain ⟨its, r, ⟨⟨cl, dd, dat, sl⟩, ho, hc, n, hd⟩, _⟩ := I.tuple hT
    simp only at hc hd
    subst hc hd
    exact wpAny_binaryOp_repeat_ref (T := "tuple") (U := "int") (by decide) ⟨_, ho, rfl⟩ (fun s' => typeIs_int s' 1 t) noFill_tuple_mul F.fills_int_mul F.slot_int_rmul repeat_tuple F.slot_int_index.lookup
      (call_meets F.slot_int_rmul (typeIs_int s 1 t) F.entry_int_rmul (F.args_int_rmul_2 _ _) (int_rmul_tuple 1 t l its.toArray n dd sl)
        ⟨ho, rfl, ⟨_, ho, rfl⟩, call_meets F.slot_tuple_mul ⟨_, ho, rfl⟩ F.entry_tuple_mul (F.args_tuple_mul_2 _ _) (tuple_mul1 l its.toArray n dd sl t) ⟨ho, ⟨.ref l, H, I, rfl, q1 rfl⟩⟩⟩)
  · exact op_repT pins s σ H _ _ v u Q I rx ry ⟨l, k, xs, rfl, rfl, hT, hne, by omega, h2, hz, q2 hk⟩
end HL

namespace HL
open PySem PySem.Spec PyProof.Rows L2
/-! several except clauses, each with a name -/
/-- behind a suite the name's slot is empty -/
abbrev offE (i : Nat) (D : Ends) : Ends := { nx := fun σ' H' => D.nx (σ'.set i none) H', rt := D.rt, bk := fun σ' H' => D.bk (σ'.set i none) H', ct := fun σ' H' => D.ct (σ'.set i none) H' }
def wManyA (K : PySem.W.Frag) (i : Nat) (Wout : WX) (D : Ends) : List (Value × (Addr → Value → Option Addr → TS)) → WX
  | [] => Wout
  | (c, ts) :: r => fun cls d σ H => ∃ b, PySem.W.exmOne K cls c = some b ∧ (b = true → ∀ a, H a = none → ts a cls d (offE i D) (σ.set i (some (.ref a))) H) ∧ (b = false → wManyA K i Wout D r cls d σ H)
inductive HdsA (X : Cx) (n : Str) : List ExceptHandler → List (Value × (Addr → Value → Option Addr → TS)) → Prop
  | nil : HdsA X n [] []
  | cons {x : Str} {c : Value} {ts : Addr → Value → Option Addr → TS} {b₀ : Stmt} {suite : List Stmt} {np pos' : Pos} {hds : List ExceptHandler} {l : List (Value × (Addr → Value → Option Addr → TS))} (hc : Names X x c)
      (hsu : ∀ (a : Addr) (oe : Obj) (cls : Value) (d : Option Addr) (pn : List (Addr × Obj)), Zc cls d oe → (∃ vs, oe.data = .fields vs) → PSs (X.suite a ((a, oe) :: pn)) (b₀ :: suite) (ts a cls d)) (r : HdsA X n hds l) :
      HdsA X n (.ExceptHandler (some (.Name x np)) (some n) (b₀ :: suite) pos' :: hds) ((c, ts) :: l)
section
variable {X : Cx} {n : Str} {i : Nat} {body : List Stmt} {h₀ : ExceptHandler} {hds : List ExceptHandler} {l : List (Value × (Addr → Value → Option Addr → TS))} {pos : Pos} {tb : WX → TS} {Wout : WX}
theorem ps_try_manyA (hs : X.stack = X.env :: X.outer) (hf : X.env.frame = some X.env.locals) (hN : X.N.Nodup) (hi : X.N[i]? = some n) (hln : X.env.kindOf n = some .local) (tk : Takes X Wout)
    (hb : ∀ (W : WX) (pn : List (Addr × Obj)) (xe : Value → Shared → Prop), Takes (X.tr pn xe) W → PassesOwn (model X.prog X.w) X.A X.env xe → PSs (X.tr pn xe) body (tb W)) (hh : HdsA X n (h₀ :: hds) l) :
    PS X (.Try body (h₀ :: hds) [] [] pos) (fun D σ H => tb (wManyA X.K i Wout D l) D σ H) := by
  refine ⟨fun pins s σ H D I hTB => ?_⟩
  have okI := I.ok
  have frA : X.A.frames = some (X.env :: X.outer) := by rw [okI.frames, hs]
  have locN : Loc X.env.scope n := .inl hln
  refine wpAny_Try_except (wpAny_mono ((hb (wManyA X.K i Wout D l) (X.pn ++ pins) (fun e sa => wpAny (model X.prog X.w) X.A (noteFrame e X.env) (fun _ sb => wpAny (model X.prog X.w) X.A (setFlight e none) (fun _ sc =>
    wpAny (model X.prog X.w) X.A (handleBy e X.env (h₀ :: hds)) (SP X pins D) X.xe sc) X.xe sb) X.xe sa) (fun u s' xx => ?_) PassesOwn.looking).run [] s σ H D (I.toTry _) hTB) (fun f sq hsp => ?_) (fun e sq he => he))
  · obtain ⟨a, B, sI, pins', σ', H', cls, d, rfl, J', nb, up, sky, na, os, ag, wsh⟩ := xx
    have J : Inv X pins σ' H' sI := J'.ofTry okI
    have skyE : Sky B (X.env :: X.outer) a (Zc cls d) X.env.locals s'.heap := by rw [← hs]; exact sky
    show wpAny (model X.prog X.w) X.A (noteFrame (.ref a) X.env) _ _ _
    refine Sky.land Zc.steady frA hf skyE fun hC flC upC => ?_
    have JC : Inv X pins σ' H' { s' with heap := hC } := J.landed nb flC.1 (up.trans upC) os ag
    obtain ⟨oC, vC, heC, hzC, hdC⟩ := flC.there
    have notFr : a ∉ frs (X.env :: X.outer) := fun hm => by
      obtain ⟨_, o', e', hnf⟩ := flC.2.2.1.mem hm
      rw [heC] at e'
      cases e'
      exact hnf _ hdC
    have nL : a ≠ X.env.locals := fun z => notFr (List.mem_filterMap.mpr ⟨X.env, List.mem_cons_self, by rw [hf, z]⟩)
    have nF : a ∉ X.fs := fun hm => by
      obtain ⟨e, he, q⟩ := List.mem_filterMap.mp hm
      exact notFr (List.mem_filterMap.mpr ⟨e, List.mem_cons_of_mem _ he, q⟩)
    have SC := JC.suite heC hdC na nL nF
    have go : ∀ {hd2 : List ExceptHandler} {l2 : List (Value × (Addr → Value → Option Addr → TS))}, HdsA X n hd2 l2 → wManyA X.K i Wout D l2 cls d σ' H' → wpAny (model X.prog X.w) X.A (handleBy (.ref a) X.env hd2) (SP X pins D) X.xe { s' with heap := hC } := by
      intro hd2 l2 hk
      induction hk with
      | nil =>
        intro wn
        refine wpAny_handleBy_nil ?_
        obtain ⟨k1, k2, k3, oe, vs, T, oT, ts', he, hz, hd, h1, hr⟩ := id flC
        unfold PySem.passOn
        refine wpAny_bind (wpAny_field he hd h1 ?_)
        rw [if_neg (show ¬ ((Value.ref T == Value.none) = true) from by simp)]
        have fin : wpAny (model X.prog X.w) X.A (setFlight (.ref a) X.env.frame) (fun _ sd => wpAny (model X.prog X.w) X.A (throw (.ref a) : Sem Flow) (SP X pins D) X.xe sd) X.xe { s' with heap := hC } := by
          rw [hf]
          refine HandSPX.setFlight_upZ flC fun hD hhD upD => wpAny_throw (tk _ _ ?_)
          exact ⟨a, B, sI, pins, σ', H', cls, d, rfl, J, nb, (up.trans upC).trans upD, .inr (.inr (by rw [hs]; exact hhD)), na, os, ag, wn⟩
        first
          | exact wpAny_bind (wpAny_pure (wpAny_bind fin))
          | exact wpAny_bind fin
      | @cons x c ts b₀ suite np pos' hd3 l3 hc hsu r ih =>
        intro wn
        obtain ⟨b, hb1, hyes, hno⟩ := wn
        refine wpAny_handleBy_cons (codeAny_handlers_test ?_) (by intro q; cases q)
        have LT : PySem.W.Looks (model X.prog X.w) hC (typeOf (.ref a)) cls := fun A Q E s k q => wpAny_typeOf_ref (k _ _ heC) (by rw [hzC.1]; exact q)
        have LM := PySem.W.exm_one (M := model X.prog X.w) (JC.kIn) LT hb1
        have look : ∀ {Q : Value → Shared → Prop} {E : Value → Shared → Prop}, Q c { s' with heap := hC } → wpAny (model X.prog X.w) (X.A.mark (some (.ref a))) (eval (.Name x np) X.env) Q E { s' with heap := hC } := fun {Q E} q => by
          obtain ⟨hg, hdbg, hm | ⟨hm, hv, hnn⟩⟩ := hc
          · exact ld_glob (X := X.suite a ((a, oC) :: (X.pn ++ pins))) SC hg hm q hdbg
          · exact ld_blt (X := X.suite a ((a, oC) :: (X.pn ++ pins))) SC hg hm hv q hnn hdbg
        refine look (LM.here ?_)
        cases b with
        | false =>
          show wpAny _ X.A (handleBy (.ref a) X.env hd3) _ _ _
          exact ih (hno rfl)
        | true =>
          refine codeAny_handlers_suite_as (HandSPX.lands_againZ flC fun hD flD upD => ?_)
          have JD : Inv X pins σ' H' { s' with heap := hD } := J.landed nb flD.1 ((up.trans upC).trans upD) os ag
          obtain ⟨oD, vD, heD, hzD, hdD⟩ := flD.there
          have SD := JD.suite heD hdD na nL nF
          refine store_ok (X := X.suite a ((a, oD) :: (X.pn ++ pins))) (v := .ref a) SD hN hi locN rfl (fun sE SE => ?_) (.inr hln)
          refine wpAny_mono ((hsu a oD cls d (X.pn ++ pins) hzD ⟨_, hdD⟩).run [] sE _ H' _ SE (hyes rfl a na)) (fun f sG hsp => ?_) (fun _ _ z => False.elim z)
          have off : ∀ {σG : L2.St} {HG : Hp} {Q : Shared → Prop}, Inv (X.suite a ((a, oD) :: (X.pn ++ pins))) [] σG HG sG → (∀ sH, Inv X pins (σG.set i none) HG sH → Q sH) →
              wpAny (model X.prog X.w) X.A (do bindName X.env n .none; unbindBehindTheSuite X.env n pos') (fun _ sH => Q sH) X.xe sG := fun {σG HG Q} SG hq => gone_ok (SG.unsuite okI) hN hi hln hq
          cases f with
          | ret u =>
            obtain ⟨vG, σG, HG, SG, rG, qG⟩ := hsp
            exact off SG fun sH JH => ⟨_, _, _, JH, rG, qG⟩
          | next =>
            obtain ⟨σG, HG, SG, qG⟩ := hsp
            exact off SG fun sH JH => ⟨_, _, JH, qG⟩
          | brk =>
            obtain ⟨σG, HG, SG, qG⟩ := hsp
            exact off SG fun sH JH => ⟨_, _, JH, qG⟩
          | cont =>
            obtain ⟨σG, HG, SG, qG⟩ := hsp
            exact off SG fun sH JH => ⟨_, _, JH, qG⟩
    exact go hh wsh
  · cases f with
    | ret u =>
      obtain ⟨v, σ', H', J', r, q⟩ := hsp
      exact ⟨v, σ', H', J'.ofTry okI, r, q⟩
    | next =>
      obtain ⟨σ', H', J', q⟩ := hsp
      exact wpAny_execs_nil ⟨σ', H', J'.ofTry okI, q⟩
    | brk =>
      obtain ⟨σ', H', J', q⟩ := hsp
      exact ⟨σ', H', J'.ofTry okI, q⟩
    | cont =>
      obtain ⟨σ', H', J', q⟩ := hsp
      exact ⟨σ', H', J'.ofTry okI, q⟩
end
end HL

namespace HL
open PySem PySem.Spec PyProof.Rows L2
open LamX (CodeO Tabs TabB ExtN LamS lamEnv lamCx lam_start2 lam_make2 run_ofS tLam)
/-! what a def got is asked, its own slots known where that raises -/
/-- the asking def's context, entered at s -/
abbrev gCx (X : Cx) (Ng : List Str) (q : Str) (sg : Scope) (g : Addr) (cd : Value) (s : Shared) (H : Hp) : Cx := cxOf C8.CX0 X.prog X.w X.K X.mg X.base Ng q sg g cd X.A X.stack s H C8.E0
/-- the lambda that was made -/
abbrev lamO (X : Cx) (ps : Arguments) (b : Expr) (sc : Scope) (pm : Value) (c' : Addr) (ct : Value) : Obj := PySem.W.kla_obj "<lambda>" (X.env.qual ++ "<lambda>") ps b sc (cloFrom X.env.cells sc.names []) pm c' ct
theorem act_at {X : Cx} {pins : List (Addr × Obj)} {σ : L2.St} {H : Hp} {s : Shared} {Ng : List Str} {q : Str} {sg : Scope} {g f c' : Addr} {cd pm ct : Value} {ps : Arguments} {b : Expr} {sc : Scope} {k i : Nat} {a : Str} {pn : List (Addr × Obj)} {xe : Value → Shared → Prop} {W : WX} {E : XK} {tb : TE} {p1 p2 : Pos} {σ0 : L2.St}
    (I : Inv X pins σ H s) (L : LamS X.env.scope sc) (hf : s.heap.get? f = some (lamO X ps b sc pm c' ct)) (hn : H f = none) (hfr : f ∉ frs X.stack)
    (hb : bindArgs (PySem.W.kla_fn "<lambda>" (X.env.qual ++ "<lambda>") ps b sc (cloFrom X.env.cells sc.names []) pm (.ref c') ct) ⟨[], []⟩ = pure [])
    (tk : Takes ((gCx X Ng q sg g cd s H).tr pn xe) W) (hW : ∀ cls d H', E cls d H' → W cls d σ0 H') (hr : Room (k + 1) (X.A.deeper (envOfC q sg s.heap.objs.size g cd)))
    (hbody : ∀ (A : Around) (o : List Env) (s : Shared) (H : Hp), Room k (A.deeper (lamEnv X sc s.heap.objs.size f c')) → PE (lamCx X A o s H E sc f c') b tb)
    (hN : Ng[i]? = some a) (hv : Vis sg a) (d1 : (a == ("__debug__" : Str)) = false) (d2 : (a == ("__classdict__" : Str)) = false) :
    PE ((gCx X Ng q sg g cd s H).tr pn xe) (.Call (.Name a p1) [] [] p2) (fun σZ HZ Q => σZ = σ0 ∧ σZ[i]? = some (some (.ref f)) ∧ HZ c' = some (CodeO c' (X.env.qual ++ "<lambda>")) ∧ tb σ HZ Q) := by
  refine ⟨fun pz sz σz hz Qz J ⟨eσ, h1, h2, h3⟩ => ?_⟩
  have nm := (pe_var (pos := p1) (i := i) hN hv d1 d2).run pz sz σz hz (fun v H1 => v = .ref f ∧ H1 = hz) J ⟨_, h1, rfl, rfl⟩
  refine wpAny_Call_Name_kw (thn nm ?_)
  rintro u s1 ⟨v, H1, J1, r1, ⟨ev, eh⟩⟩
  subst ev
  rw [eh] at J1
  obtain rfl : u = Value.ref f := r1
  have o1 : s1.heap.get? f = some (lamO X ps b sc pm c' ct) := J1.base.keep f _ hf hn hfr (fun y => List.not_mem_nil (show f ∈ ([] : List Addr) from y))
  have go : codeAny (model X.prog X.w) (X.A.deeper (envOfC q sg s.heap.objs.size g cd)) (.call (.ref f) ⟨[], []⟩) (CR (L2.CX X.prog X.w) (envOfC q sg s.heap.objs.size g cd :: X.stack) X.prog X.w hz s1 Qz E) s1 := by
    obtain ⟨⟨oc, vs, t, ho, hd, hc⟩, _, _⟩ := J1.hok c' _ h2
    refine PySem.W.kla_callFunE hr.depth o1 rfl L.co L.gen rfl ⟨c', oc, vs, t, rfl, ho, hd, hc⟩ ?_
    rw [hb]
    refine wpAny_pure (wpAny_newFunctionEnv (fun y hy => (L.own y hy).2) (fun y hy => absurd hy (by simp)) (fun h1' hns hsb => ⟨J1.nolimit.fresh _ hsb, ?_⟩) L.kind)
    show codeAny _ _ (.expr b (lamEnv X sc s1.heap.objs.size f c')) _ _
    have st : Inv (lamCx X (X.A.deeper (envOfC q sg s.heap.objs.size g cd)) (envOfC q sg s.heap.objs.size g cd :: X.stack) s1 hz E sc f c') [] σ hz { s1 with heap := h1', toks := s1.toks + ([] : List (Str × Value)).length } :=
      lam_start2 I L J1.env0 hr.hd J1.base hns (fun b' o' e' => hsb.extBut b' o' (Nat.ne_of_lt (Heap.lt_size e')) (Heap.get?_push_of_some _ e'))
    refine PySem.W.kla_codeExpr (wpAny_mono ((hbody _ _ s1 hz (hr.deeper _)).run [] _ _ hz Qz st h3) ?_ (fun _ _ x => x))
    rintro v' s' ⟨w', H', J', rv, qv⟩
    exact ⟨w', H', J'.os, J'.bare, J'.base, J'.hok, rv, qv⟩
  refine PySem.W.callWith_F0 ⟨_, _, _, _, o1⟩ (wpAny_call (codeAny_mono go ?_))
  intro r s' hq
  cases r with
  | error e =>
    refine tk e s' (XE.of_call J1 (fun cls d H' hE => ?_) hq)
    rw [eσ]
    exact hW cls d H' hE
  | ok fl =>
    cases fl with
    | ret u => exact J1.after hq
    | next => cases hq
    | brk => cases hq
    | cont => cases hq
/-- the def that asks: σ0 its slots where it asks -/
def AsksOf (X : Cx) (Ng : List Str) (x : Str) (sg : Scope) (g : Addr) (cd : Value) (bg : List Stmt) (a : Str) (q : Str) (TT : (XK → Hp → VK → Prop) → Hp → VK → Prop) : Prop :=
  ∀ (f c' : Addr) (s : Shared) (H : Hp) (Q : VK) (tl : XK → Hp → VK → Prop),
    (∀ (σ0 : L2.St) (W : WX) (pn : List (Addr × Obj)) (xe : Value → Shared → Prop) (E : XK) (p1 p2 : Pos), Takes ((gCx X Ng x sg g cd s H).tr pn xe) W → (∀ cls d H', E cls d H' → W cls d σ0 H') →
      PE ((gCx X Ng x sg g cd s H).tr pn xe) (.Call (.Name a p1) [] [] p2) (fun σZ HZ Q => σZ = σ0 ∧ σZ[0]? = some (some (.ref f)) ∧ HZ c' = some (CodeO c' q) ∧ tl E HZ Q)) →
    H c' = some (CodeO c' q) → TT tl H Q → ∃ t, PSs (gCx X Ng x sg g cd s H).nox bg t ∧ t { nx := fun _ H' => Q .non H', rt := Q } (L2.start Ng [.ref f]) H
theorem pe_askcall {X : Cx} {T : List (Addr × Str)} {TT : (XK → Hp → VK → Prop) → Hp → VK → Prop} {x a : Str} {g c P : Addr} {k : Nat} {pg : Arguments} {bg : List Stmt} {sg : Scope} {dV kV doc pm cdv ct oc : Value} {an od : Option Addr} {osl : Array (Option Value)} {Ng : List Str}
    {ps : Arguments} {b : Expr} {sc : Scope} {t : XK → TE} {p lp pos : Pos} (hg : Gl X x) (hm : X.mg x = some (.ref g)) (hk : PySem.W.keepIn X.K (.ref g) = true)
    (lk : X.K.lookup g = some ⟨oc, od, .func (PySem.W.fnOf x x pg bg sg dV kV doc pm an cdv ct), osl⟩) (hcg : PySem.W.codeIn X.K cdv x = true) (hbi : L2.Binds X.K (PySem.W.fnOf x x pg bg sg dV kV doc pm an cdv ct) [a] []) (Sg : FnScope Ng [a] sg) (hN : Ng[0]? = some a) (hv : Vis sg a)
    (hG : AsksOf X Ng x sg g cdv bg a (X.env.qual ++ "<lambda>") TT) (TB : TabB X.base X.mg c P) (hcode : X.env.code = .ref c) (hT : (P, X.env.qual ++ "<lambda>") ∈ T) (hu : ∀ p ∈ T, p.1 = P → p.2 = X.env.qual ++ "<lambda>") (hr : Room (k + 2) X.A) (L : LamS X.env.scope sc) (hdef : defaultsOf ps X.env = ([], []))
    (hb : ∀ (q : Str) (cl : List (Str × Addr)) (pm cv ctv : Value), bindArgs (PySem.W.kla_fn "<lambda>" q ps b sc cl pm cv ctv) ⟨[], []⟩ = pure [])
    (hbody : ∀ (A : Around) (o : List Env) (s : Shared) (H : Hp) (E : XK) (f c' : Addr), Room k (A.deeper (lamEnv X sc s.heap.objs.size f c')) → PE (lamCx X A o s H E sc f c') b (t E))
    (d0 : (x == ("__debug__" : Str)) = false := by decide) (d1 : (a == ("__debug__" : Str)) = false := by decide) (d2 : (a == ("__classdict__" : Str)) = false := by decide) :
    PE X (.Call (.Name x p) [.Lambda ps b sc lp] [] pos) (tLam T TT t) := by
  refine ⟨fun pins s σ H Q I ⟨hTt, h⟩ => wpAny_Call_Name_kw (ld_glob I hg hm (PySem.W.callWith_K (h₀ := X.base) I.ok.mod.kin hk ?_ (by rfl) (by rfl)) d0)⟩
  show wpAny _ _ (spliced ((false, eval (.Lambda ps b sc lp) X.env) :: backTo pos (starEach [] X.env))) _ _ s
  refine Calls.spliced_cons (lam_make2 I TB hcode hT hu hTt hdef (L.has I.ok) fun f c' pm' ctv H1 s' J eN T1 hf hfn hfr hco => Calls.spliced_nil ⟨J.kIn, ?_⟩)
  refine wpAny_call (codeAny_mono (R := CR C8.CX0 X.stack X.prog X.w H1 s' Q C8.E0) (run_ofS (N := Ng) (ps := [a]) (us := [.ref f]) (vs := [.ref f]) lk hcg Sg hr J.env0 (hbi s' [.ref f] J.kIn rfl) (.cons rfl .nil) rfl fun hr' => ?_) fun r s2 hq => ?_)
  · obtain ⟨t', ht, hq⟩ := hG f c' s' H1 Q (fun E H' Q' => t E σ H' Q') (fun σ0 W pn xe E p1 p2 tk hW => act_at (i := 0) J L hf hfn hfr (hb _ _ _ _ _) tk hW hr' (fun A o s H hr2 => hbody A o s H E f c' hr2) hN hv d1 d2) hco (h H1 eN T1)
    exact ⟨t', ht.nox, hq⟩
  · cases r with
    | error e => exact (show False from hq).elim
    | ok fl =>
      cases fl with
      | ret u => exact J.after hq
      | next => cases hq
      | brk => cases hq
      | cont => cases hq
end HL

/-! own exceptions over any built-in base, their __init__ walked as a def; made with any count of arguments -/
namespace HL
open PySem PySem.Spec PyProof.Rows L2
open PySem.Builtin PySem.Builtin.ObjectAttr PySem.HandSPX
section
variable {prog : Program} {w : World} {A : Around} {R : Result → Shared → Prop} {hp : Heap} {g : Array GenState} {d : Drawn} {t : Nat} {os : OsState} {K : PySem.W.Frag} {f : Str} {tk : Tok} {v : Value} {x C : Addr} {fv : Array Value} {cd : ClassData}
/-- what a store on an instance looks up, told of its class alone -/
structure Mro (cd : ClassData) : Prop where
  pass : ∀ self, refuseLoop self "__setattr__" cd.mro = pure ()
  obj : cd.mro.contains (.type "object") = true
  ne : cd.mro.isEmpty = false
  hd : cd.hasDict = true
theorem osaG {o : Obj} {od : Option Obj} (X : K.In hp) (I : PySem.W.InstAt hp x o C od) (hcd : PySem.W.clsIn K C = some cd) (M : Mro cd) (ha : PySem.W.findIn K (.ref C) f = some none)
    (hq : wpAny (model prog w) A.in1 (storeInOwnDict (.ref x) (.ref C) (.str f tk) f v false) (fun r s' => match r with | .done fl => R (.ok fl) s' | .again c' => c'.quiet = true ∧ codeAny (model prog w) A c' R s') (fun e s' => R (.error e) s') ⟨hp, g, d, t, os⟩) :
    codeAny (model prog w) A (.call (.builtin "object.__setattr__") ⟨[.ref x, .str f tk, v], []⟩) R ⟨hp, g, d, t, os⟩ := by
  have SF := F.store_object
  have sub : PySem.W.Looks (model prog w) hp (isInstance (.ref x) (.type "object")) true := I.type.andThen (PySem.W.looks_mroIn X (by unfold PySem.W.mroIn; rw [hcd, Option.bind_some, if_neg (by rw [M.ne]; decide), M.obj]))
  refine codeAny_call_builtin SF.slot.plain SF.entry (@PySem.W.check_slot (model prog w) _ _ ⟨hp, g, d, t, os⟩ "object.__setattr__" "object" "__setattr__" (.ref x) [.str f tk, v] [] _ SF.kind SF.split sub (SF.args (.ref x) (.str f tk) v) ?_)
  have hmr : PySem.W.Looks (model prog w) hp (mroOf (.ref C)) cd.mro := (PySem.W.looks_clsIn X hcd).andThen .now
  have L3 : PySem.W.Looks (model prog w) hp (storeTaker? none) none := .now
  rw [PySem.W.osa_eq, refuse_eq]
  refine wpAny_bind (wpAny_bind (I.type.at (wpAny_bind (hmr.at ?_))))
  rw [M.pass]
  refine wpAny_pure (wpAny_bind (I.type.at (wpAny_bind ((PySem.W.looks_findIn X ha).at (wpAny_bind (L3.at ?_))))))
  exact hq
/-- the first field of an instance -/
theorem store1 (X : K.In hp) (hx : hp.get? x = some { cls := .ref C, data := .fields fv }) (hcd : PySem.W.clsIn K C = some cd) (M : Mro cd) (ha : PySem.W.findIn K (.ref C) f = some none)
    (hq : ∀ h' tk' dx, (∀ b o, b ≠ x → hp.get? b = some o → h'.get? b = some o) → hp.objs.size ≤ dx → dx ≠ x → h'.get? x = some { cls := .ref C, dict := some dx, data := .fields fv } → h'.Ns1 dx (fun y => if y = f then some v else none) → R (.ok (.ret .none)) ⟨h', g, d, tk', os⟩) :
    codeAny (model prog w) A (.call (.builtin "object.__setattr__") ⟨[.ref x, .str f tk, v], []⟩) R ⟨hp, g, d, t, os⟩ := by
  have hxs : x ≠ hp.objs.size := Nat.ne_of_lt (Heap.lt_size hx)
  refine osaG (od := none) X ⟨hx, rfl, rfl, trivial⟩ hcd M ha ?_
  have hc : PySem.W.Looks (model prog w) hp (classData C) cd := PySem.W.looks_clsIn X hcd
  obtain ⟨_, _, _, hdt⟩ := M
  obtain ⟨nm, bs, mro, ns, qn, hd, sn, sb, ab, col, del⟩ := cd
  cases hdt
  unfold storeInOwnDict ownDictForStores
  repeat (first | with_reducible refine store_in_new ?_ ?_ | with_reducible refine wpAny_loadPart_at hx ?_ | with_reducible refine hc.at ?_ | wp_step)
  · have nothing : ∀ e ∈ (#[] : Array DictEntry).toList, False := fun e he => by simp at he
    exact ⟨_, #[], _, (Heap.get?_update_ne _ _ _ _ hxs.symm).trans (Heap.get?_push_at rfl rfl),
      rfl, fun e he => absurd he (by simp), fun _ => rfl⟩
  · intro h' tk' hn' hs
    refine hq h' tk' hp.objs.size ?_ (Nat.le_refl _) hxs.symm ?_ hn'
    · intro b o hb ho
      rw [hs.2 b (Nat.ne_of_lt (Heap.lt_size ho)), Heap.get?_update_ne _ _ _ _ hb]
      exact Heap.get?_push_of_some _ ho
    · rw [hs.2 x hxs]
      exact Heap.get?_update_self _ (Heap.get?_push_of_some _ hx) rfl
/-- a further field -/
theorem store2 {dx : Addr} {m0 : Str → Option Value} {nl : List Str} (X : K.In hp) (hx : hp.get? x = some { cls := .ref C, dict := some dx, data := .fields fv }) (hns : hp.Ns1 dx m0) (hw : Within m0 nl) (hz : nl.length ≤ 1000) (hcd : PySem.W.clsIn K C = some cd) (M : Mro cd) (ha : PySem.W.findIn K (.ref C) f = some none)
    (hq : ∀ h' tk', (∀ b o, b ≠ dx → hp.get? b = some o → h'.get? b = some o) → h'.Ns1 dx (fun y => if y = f then some v else m0 y) → R (.ok (.ret .none)) ⟨h', g, d, tk', os⟩) :
    codeAny (model prog w) A (.call (.builtin "object.__setattr__") ⟨[.ref x, .str f tk, v], []⟩) R ⟨hp, g, d, t, os⟩ := by
  obtain ⟨oD, _, _, hoD, _, _⟩ := hns.count hw
  refine osaG (od := some oD) X ⟨hx, rfl, rfl, hoD⟩ hcd M ha ?_
  have hc : PySem.W.Looks (model prog w) hp (classData C) cd := PySem.W.looks_clsIn X hcd
  obtain ⟨_, _, _, hdt⟩ := M
  obtain ⟨nm, bs, mro, ns, qn, hd, sn, sb, ab, col, del⟩ := cd
  cases hdt
  unfold storeInOwnDict ownDictForStores
  repeat (first | with_reducible refine PySem.OEX.store_in_old hns hw hz ?_ | with_reducible refine wpAny_loadPart_at hx ?_ | with_reducible refine hc.at ?_ | wp_step)
  exact fun h' tk' hn' hs => hq h' tk' (fun b o hb ho => by rw [hs.2 b hb]; exact ho) hn'
end
/-- what the written part says of an own class over a built-in base -/
structure OexB (K : PySem.W.Frag) (C : Addr) (nid : String) (bmB : List Value) : Prop where
  cls : ∃ nm q N bs bm sn sub ab col dd k0 k1 k2 k3 k5, K.lookup C = some (excClassObj nm q C N bs bm true sn sub ab col dd k0 k1 k2 k3 k5 nid) ∧ (∀ X : String, bm.contains (.type X) = bmB.contains (.type X)) ∧ ∀ self, refuseLoop self "__setattr__" (.ref C :: bm) = pure ()
  ob : bmB.contains (.type "object") = true
  sa : PySem.W.findIn K (.ref C) "__setattr__" = some (some (.builtin "object.__setattr__"))
  exC : PySem.W.subIn K (.ref C) (.type "BaseException") = some true
  tyC : PySem.W.typeIn K (.ref C) = some (.type "type")
  kC : PySem.W.keepIn K (.ref C) = true
theorem OexB.mro {K : PySem.W.Frag} {C : Addr} {nid : String} {bmB : List Value} (T : OexB K C nid bmB) : ∃ cd, PySem.W.clsIn K C = some cd ∧ Mro cd := by
  obtain ⟨nm, q, N, bs, bm, sn, sub, ab, col, dd, k0, k1, k2, k3, k5, hC, h1, h2⟩ := T.cls
  refine ⟨{ name := nm, bases := bs, mro := .ref C :: bm, ns := N, qualname := q, hasDict := true, slotNames := sn, subclasses := sub, abstract := ab, collection := col, hasDel := false }, by unfold PySem.W.clsIn; rw [hC] <;> rfl, h2, ?_, rfl, rfl⟩
  show (Value.ref C :: bm).contains (.type "object") = true
  rw [List.contains_cons, h1, T.ob, Bool.or_true]
section
variable {X : Cx} {nid : String} {bmB : List Value} {pins : List (Addr × Obj)} {σ : L2.St} {H : Hp} {s : Shared} {a C dx : Addr} {f : Str} {y : V} {u : Value} {fs : List (Str × V)} {Q : Unit → Shared → Prop} {E : Value → Shared → Prop} {A : Around}
theorem ostN (T : OexB X.K C nid bmB) (I : Inv X pins σ H s) (e : H a = some (exo a C none)) (hno : PySem.W.findIn X.K (.ref C) f = some none) (ry : RelV y u)
    (h : ∀ dx s', H dx = none → dx ≠ a → Inv X pins σ (upd (upd H dx (exd dx [(f, y)])) a (exo a C (some dx))) s' → Q () s') : wpAny (model X.prog X.w) A (setAttr (.ref a) f u) Q E s := by
  obtain ⟨cd, hcl, M⟩ := T.mro
  obtain ⟨t1, ho⟩ := exo_at I.hok e
  obtain ⟨hp, g, d, t, os⟩ := s
  refine PySem.W.set_plain (od := none) I.kIn ⟨ho, rfl, rfl, trivial⟩ T.sa (store1 I.kIn ho hcl M hno fun h' tk' dx k dn dne hx hn => ?_)
  have nH : H dx = none := I.hok.fresh dn
  have old : ∀ {b : Addr} {o : Obj}, hp.get? b = some o → b ≠ dx := fun {b o} q => Nat.ne_of_lt (Nat.lt_of_lt_of_le (Heap.lt_size q) dn)
  have off : ∀ {b : Addr}, H b = none → b ≠ a := fun {b} n z => by rw [z, e] at n; cases n
  have two : ∀ {b : Addr} {o : HO}, H b = some o → exo a C none ≠ o → upd (upd H dx (exd dx [(f, y)])) a (exo a C (some dx)) b = some o := fun {b o} q ne => by
    rw [upd_ne (at_ne e q ne), upd_ne (ne_of_none q nH)]
    exact q
  refine h dx _ nH dne (I.un (t' := tk') { keep := fun b o q n _ _ => k b o (off n) q, slot := fun b o q n _ _ => ⟨o.slots, k b o (off n) q⟩, free := ?fr, there := ?th, tups := fun b xs q => two q exo_tup, frzs := fun b o v q => two q exo_frz, tbls := fun b ps q => ⟨#[], by rw [two q exo_tbl]; simp⟩ } fun b o q => ?ok)
  case fr =>
    intro b o q n _
    rw [upd_ne (off n), upd_ne (old q)]
    exact n
  case th =>
    intro b o q _
    by_cases hb : b = a
    · rw [hb]
      exact ⟨_, hx⟩
    · exact ⟨o, k b o hb q⟩
  case ok =>
    by_cases hb : b = a
    · subst hb
      rw [upd_same] at q
      cases q
      exact exo_ok hx
    rw [upd_ne hb] at q
    by_cases hd : b = dx
    · subst hd
      rw [upd_same] at q
      cases q
      exact exd_ok hn (relO_put (fs := []) ry fun g => True.intro)
    rw [upd_ne hd] at q
    refine (I.hok b o q).stay (fun c v hc z => k c v ?_ z) (fun c hc => two hc exo_own) (fun c xs hc => two hc exo_tup)
    rcases hc with hc | hc
    · rw [hc]; exact hb
    · exact at_ne e hc exo_own
theorem ostO (T : OexB X.K C nid bmB) (I : Inv X pins σ H s) (e : H a = some (exo a C (some dx))) (ed : H dx = some (exd dx fs)) (hl : fs.length ≤ 900) (hno : PySem.W.findIn X.K (.ref C) f = some none) (ry : RelV y u)
    (h : ∀ s', Inv X pins σ (upd H dx (exd dx ((f, y) :: fs))) s' → Q () s') : wpAny (model X.prog X.w) A (setAttr (.ref a) f u) Q E s := by
  obtain ⟨cd, hcl, M⟩ := T.mro
  obtain ⟨t1, ho⟩ := exo_at I.hok e
  obtain ⟨mA, hns, rel⟩ := exd_at I.hok ed
  have hw := within_of rel
  obtain ⟨hp, g, d, t, os⟩ := s
  obtain ⟨oD, _, _, hoD, _, _⟩ := hns.count hw
  refine PySem.W.set_plain (od := some oD) I.kIn ⟨ho, rfl, rfl, hoD⟩ T.sa (store2 I.kIn ho hns hw (by rw [List.length_map]; omega) hcl M hno fun h' tk' k hn => ?_)
  have hd : ∃ o, h'.get? dx = some o := let ⟨o, _, _, e', _⟩ := hn; ⟨o, e'⟩
  exact h _ (I.write (t' := tk') (x := dx) (e := dx) (o := exd dx ((f, y) :: fs)) (by rw [ed]; exact True.intro) (.inl rfl) k hd (exd_ok hn (relO_put ry rel)))
end
/-! ### readings and rules -/
/-- self.f = e -/
def tOstB (K : PySem.W.Frag) (nid : String) (bmB : List Value) (f : Str) (to te : TE) : TS := fun D σ H => te σ H fun y H1 => to σ H1 fun x H2 => ∃ a C : Addr, x = .ref a ∧ OexB K C nid bmB ∧ PySem.W.findIn K (.ref C) f = some none ∧
  ((H2 a = some (exo a C none) ∧ ∀ dx, H2 dx = none → dx ≠ a → D.nx σ (upd (upd H2 dx (exd dx [(f, y)])) a (exo a C (some dx)))) ∨
    ∃ (dx : Addr) (fs : List (Str × V)), H2 a = some (exo a C (some dx)) ∧ H2 dx = some (exd dx fs) ∧ fs.length ≤ 900 ∧ D.nx σ (upd H2 dx (exd dx ((f, y) :: fs))))
section
variable {X : Cx} {nid : String} {bmB : List Value} {o e : Expr} {es : List Expr} {to te : TE} {ta : TA} {f : Str} {p p' pos : Pos}
theorem ps_ostB (ho : PE X o to) (he : PE X e te) (hs : swapsWith e (some (.Attribute o f p')) pos.line X.env = pure false := by rfl) : PS X (.Assign [.Attribute o f p'] e pos) (tOstB X.K nid bmB f to te) := by
  refine ⟨fun pins s σ H D I h => plainObj_wpAny_Assign_Attribute (thn (he.run pins s σ H _ I h) fun v s1 ⟨y, H1, I1, r1, q1⟩ => thn (ho.run pins s1 σ H1 _ I1 q1) ?_) hs⟩
  rintro u s2 ⟨x, H2, I2, r2, a, C, ex, T, hno, q⟩
  subst ex
  obtain rfl : u = Value.ref a := r2
  rcases q with ⟨ea, q⟩ | ⟨dx, fs, ea, ed, hl, q⟩
  · exact ostN T I2 ea hno r1 fun dx s' n ne J => ⟨σ, _, J, q dx n ne⟩
  · exact ostO T I2 ea ed hl hno r1 fun s' J => ⟨σ, _, J, q⟩
/-- the making, the arguments at hand -/
theorem make_at {CX : CXT} {B initId : String} {C fI : Addr} {k : Nat} {fd : FuncData} {ps : List Str} {sp : Sp} (EF : ExcBaseFacts B nid initId bmB) (T : OexB X.K C nid bmB) (iC : PySem.W.findIn X.K (.ref C) "__init__" = some (some (.ref fI))) (tI : PySem.W.typeIn X.K (.ref fI) = some (.type "function"))
    (F1 : FnOk X.prog X.w X.K X.mg X.base CX k fI fd ps sp) (hr : Room (k + 1) X.A) (hb : Binds X.K fd ps []) (hx : Passes CX X (fun _ _ _ => False)) {pins : List (Addr × Obj)} {σ : L2.St} {H1 : Hp} {s1 : Shared} {vs : List V} {us : List Value} {Q : XK} (I1 : Inv X pins σ H1 s1) (r1 : Vals vs us) (hz : vs.length ≤ 1000)
    (q1 : ∀ a, H1 a = none → sp (.ref a :: vs) (upd H1 a (exo a C none)) (fun v H2 => v = .non ∧ ∃ (d : Addr) (fs : List (Str × V)), H2 a = some (exo a C (some d)) ∧ H2 d = some (exd d fs) ∧ H1 d = none ∧ Q (.ref C) (some d) (upd (del H2 a) d (.xd fs))) (fun _ _ _ => False)) :
    wpAny (model X.prog X.w) X.A (call (.ref C) us) (MkP X pins σ Q) X.xe s1 := by
  obtain ⟨nm, q, N, bs, bm, sn, sub, ab, col, dd, k0, k1, k2, k3, k5, hC, h1, h2⟩ := T.cls
  obtain ⟨hp, g, dr, tk, os⟩ := s1
  have le : hp.objs.size ≤ hp.objs.size + 1 := Nat.le_succ _
  have hq := q1 (hp.objs.size + 1) (I1.hok.fresh le)
  have up : ∀ b o, hp.get? b = some o → ((hp.push (PySem.W.kdv_tup us)).push (excO C hp.objs.size)).get? b = some o := fun b o z => Heap.get?_push_of_some _ (Heap.get?_push_of_some _ z)
  have at1 : ((hp.push (PySem.W.kdv_tup us)).push (excO C hp.objs.size)).get? (hp.objs.size + 1) = some (excO C hp.objs.size) := by heap_get
  have I2 : Inv X pins σ (upd H1 (hp.objs.size + 1) (exo (hp.objs.size + 1) C none)) ⟨(hp.push (PySem.W.kdv_tup us)).push (excO C hp.objs.size), g, dr, tk, os⟩ := I1.laid (t' := tk) up le (exo_ok at1)
  have r2 : Vals (V.ref (hp.objs.size + 1) :: vs) (Value.ref (hp.objs.size + 1) :: us) := .cons rfl r1
  have len : (Value.ref (hp.objs.size + 1) :: us ++ []).length = ps.length := by
    rw [List.append_nil, ← r2.length]
    exact F1.len _ _ _ _ hq
  have bi := hb _ (Value.ref (hp.objs.size + 1) :: us) I2.kIn len
  rw [List.append_nil] at bi
  have small : us.length ≤ sizeLine := by
    rw [← Paired.length r1, sizeLine_eq]
    omega
  have run := F1.run _ X.stack _ _ ⟨Value.ref (hp.objs.size + 1) :: us, []⟩ (Value.ref (hp.objs.size + 1) :: us) _ _ (fun _ _ _ => False) (hr.make C us []) (I2.env0.make C us []) bi r2 hq
  refine wpAny_call (call_own EF h1 (I1.kIn _ _ hC) (PySem.W.looks_findIn I1.kIn iC) (fun self => PySem.W.bind_fn I1.kIn self tI) small (codeAny_mono run ?_))
  rintro (er | fl) s' hq'
  · exact hx pins σ _ _ er s' I2 hq'
  · cases fl with
    | ret u =>
      obtain ⟨v, H2, os2, bare2, un2, hok2, rv, ev, d, fs, ea, ed, hd1, q2⟩ := hq'
      subst ev
      exact ⟨rv, mk_end (raises_own T.exC T.tyC) I1 le up un2 hok2 os2 bare2 ea ed hd1 q2⟩
    | next => cases hq'
    | brk => cases hq'
    | cont => cases hq'
def tMkB (C : Addr) (sp : Sp) (ta : TA) : L2.St → Hp → XK → Prop := fun σ H Q => ta σ H fun vs H1 => vs.length ≤ 1000 ∧ ∀ a, H1 a = none → sp (.ref a :: vs) (upd H1 a (exo a C none))
  (fun v H2 => v = .non ∧ ∃ (d : Addr) (fs : List (Str × V)), H2 a = some (exo a C (some d)) ∧ H2 d = some (exd d fs) ∧ H1 d = none ∧ Q (.ref C) (some d) (upd (del H2 a) d (.xd fs))) (fun _ _ _ => False)
theorem pmk_oexB {CX : CXT} {B initId : String} {x : Str} {C fI : Addr} {k : Nat} {fd : FuncData} {ps : List Str} {sp : Sp} (EF : ExcBaseFacts B nid initId bmB) (T : OexB X.K C nid bmB) (iC : PySem.W.findIn X.K (.ref C) "__init__" = some (some (.ref fI))) (tI : PySem.W.typeIn X.K (.ref fI) = some (.type "function"))
    (F1 : FnOk X.prog X.w X.K X.mg X.base CX k fI fd ps sp) (hr : Room (k + 1) X.A) (hb : Binds X.K fd ps []) (hx : Passes CX X (fun _ _ _ => False)) (hg : Gl X x) (hm : X.mg x = some (.ref C)) (ha : PA X (e :: es) ta)
    (hdb : (x == ("__debug__" : Str)) = false := by decide) (he : starEach (e :: es) X.env = (false, eval e X.env) :: starEach es X.env := by rfl) (hpl : (backTo pos (starEach es X.env)).any (·.1) = false := by rfl) :
    PMk X (.Call (.Name x p) (e :: es) [] pos) (tMkB C sp ta) := fun pins s σ H Q I h =>
  wpAny_Call_Name_kw (ld_glob I hg hm (PySem.W.callWith_K (h₀ := X.base) I.ok.mod.kin T.kC (thn (ha.run pos pins s σ H _ I h) fun us s1 ⟨vs, H1, I1, r1, hz, q1⟩ => ⟨I1.kIn, make_at EF T iC tI F1 hr hb hx I1 r1 hz q1⟩) he hpl) hdb)
theorem pmk_oexB0 {CX : CXT} {B initId : String} {x : Str} {C fI : Addr} {k : Nat} {fd : FuncData} {ps : List Str} {sp : Sp} (EF : ExcBaseFacts B nid initId bmB) (T : OexB X.K C nid bmB) (iC : PySem.W.findIn X.K (.ref C) "__init__" = some (some (.ref fI))) (tI : PySem.W.typeIn X.K (.ref fI) = some (.type "function"))
    (F1 : FnOk X.prog X.w X.K X.mg X.base CX k fI fd ps sp) (hr : Room (k + 1) X.A) (hb : Binds X.K fd ps []) (hx : Passes CX X (fun _ _ _ => False)) (hg : Gl X x) (hm : X.mg x = some (.ref C)) (hdb : (x == ("__debug__" : Str)) = false := by decide) :
    PMk X (.Call (.Name x p) [] [] pos) (tMkB C sp tNil) := fun pins s σ H Q I h =>
  wpAny_Call_Name_kw (ld_glob I hg hm (PySem.W.callWith_K0 I.kIn T.kC (make_at EF T iC tI F1 hr hb hx I .nil (Nat.zero_le _) h.2)) hdb)
end
end HL

namespace HL
open PySem PySem.Spec PyProof.Rows L2
/-! sorted(t), t a tuple of ints -/
def rSortedTup (K : PySem.W.Frag) : List V → Hp → VK → Prop := fun vs H Q => ∃ (a : Addr) (ns : List Int), vs = [V.ref a] ∧ SqT K H a (ns.map V.int) ∧ ∀ (ns' : List Int) (p : Addr), ns'.Perm ns → ns'.Pairwise (· ≤ ·) → H p = none → Q (.ref p) (upd H p (.lst (ns'.map V.int)))
theorem cr_sortedTup {X : Cx} : CallR X (.builtin "sorted") (rSortedTup X.K) := by
  intro pins s σ H vs us Q I r h
  obtain ⟨a, ns, rfl, hs, q⟩ := h
  obtain ⟨its, rv, ⟨o, ho, hc, n, hd⟩, hz⟩ := I.tuple hs
  rw [Vals.ref1 r]
  have hi := rv.ints
  have hz' : its.length ≤ sizeLine := by rw [← rv.length]; exact hz
  refine Calls.call_function_entry kind_sorted plain_sorted entry_sorted (args_sorted1 _) ?_
  unfold Builtin.«sorted»
  refine wpAny_bind (m := checkCount "sorted" 1 1 _) (wpAny_pure (wpAny_bind (wpAny_collect_seq (T := "tuple") a (.inr rfl) ho hc hd (fun h1 k1 => ?_) (by rw [List.size_toArray]; exact hz'))))
  rw [List.toList_toArray]
  refine wpAny_bind (wpAny_newList ?_ hz')
  have at1 : (h1.push (seqObj "list" its.toArray 0)).get? h1.objs.size = some (seqObj "list" its.toArray 0) := Heap.get?_push_size _ rfl
  have I1 := I.kept (t' := s.toks) k1
  refine wpAny_bind (wpAny_holding (wpAny_call_entry slot_list_sort ⟨_, at1, rfl⟩ entry_list_sort (SrtO.list_sort_ord SrtO.swo_int at1 hz' (fun h2 => SrtO.ints_sortable hi h2) fun out p1 p2 => ⟨_, rfl, ?_⟩) (args_list_sort _)))
  refine wpAny_pure ⟨_, rfl, ?_⟩
  obtain ⟨j1, j2, j3⟩ := SrtO.ints_out hi p1 p2
  obtain ⟨ep, he⟩ := sortedHeap_at (vs := its) (out := out.toArray) at1
  have hl : ((out.map SrtO.iv).map V.int).length ≤ sizeLine := by
    rw [List.length_map, j2.length_eq]
    rw [List.length_map] at hz
    exact hz
  refine ⟨.ref _, upd H h1.objs.size (.lst ((out.map SrtO.iv).map V.int)), I1.laid (t' := s.toks) (fun b o e => ?_) (Nat.le_refl _) ⟨hl, out, ep, vals_of_ints j1, he⟩, rfl, q _ _ j2 j3 (I1.hok.fresh (Nat.le_refl _))⟩
  have lb : b < h1.objs.size := Heap.lt_size e
  rw [sortedHeap_old (Nat.ne_of_lt lb) (by rw [Heap.size_push]; exact Nat.lt_succ_of_lt lb)]
  exact Heap.get?_push_of_some _ e
end HL

namespace HL
open PySem PySem.Spec PyProof.Rows L2
open AutoSeq1 (wpAny_loadPart')
/-! t * k, k from 0 on: no times is a new tuple of nothing -/
theorem tuple_mul0 (l : Addr) (items : Array Value) (n : Nat) (dd : Option Addr) (sl : Array (Option Value)) (u : Tok) (he : items.isEmpty = false) :
    Meets (Builtin.«tuple.__mul__» ⟨[.ref l, .int 0 u], []⟩)
      (fun _ R s => s.heap.get? l = some { cls := .type "tuple", dict := dd, data := .seq items n, slots := sl } ∧ R (.ok (.ret (.ref s.heap.objs.size))) { s with heap := s.heap.push { cls := .type "tuple", data := .seq #[] }, toks := s.toks }) :=
  .of_wp fun prog w A R s h => by
    obtain ⟨hp, g, d, tk, os⟩ := s
    obtain ⟨hl, h⟩ := h
    have f1 := AutoSeq1.idx_int
    have e1 : ¬ ((items.isEmpty || ((0 : Int) == 1)) = true) := by rw [he]; decide
    have e2 : (decide ((0 : Int) ≤ 0) || items.isEmpty) = true := by rw [he]; decide
    have e3 : ¬ ((#[] : Array Value).size > sizeLine) := by show ¬ (0 > sizeLine); decide
    wp_walk using wpAny_loadPart' hl
    repeat (first
      | (refine wpAny_ite_false (by decide) ?_; wp_walk using wpAny_loadPart' hl)
      | (refine wpAny_ite_false (decide_eq_false e1) ?_; wp_walk using wpAny_loadPart' hl)
      | (refine wpAny_ite_true (decide_eq_true e2) ?_; wp_walk using wpAny_loadPart' hl)
      | (refine wpAny_ite_true (by decide) ?_; wp_walk using wpAny_loadPart' hl)
      | (refine wpAny_ite_false (decide_eq_false e3) ?_; wp_walk using wpAny_loadPart' hl))
    exact ⟨_, rfl, h⟩
/-- no times, or as often as rRepA lets -/
def rRepN (K : PySem.W.Frag) : R2 := fun x y H Q => (∃ l xs, x = .ref l ∧ y = .int 0 ∧ SqT K H l xs ∧ xs ≠ [] ∧ ∀ p, H p = none → Q (.ref p) (upd H p (.tup []))) ∨ rRepA K x y H Q
theorem op_repN {X : Cx} : OpR X (binaryOp .Mult) (rRepN X.K) := by
  intro pins s σ H x y v u Q I rx ry h
  rcases h with ⟨l, xs, rfl, rfl, hT, hne, q⟩ | h
  · cases rx
    obtain ⟨t, rfl⟩ := ry
    obtain ⟨its, r, ⟨⟨cl, dd, dat, sl⟩, ho, hc, n, hd⟩, _⟩ := I.tuple hT
    simp only at hc hd
    subst hc hd
    have he : its.toArray.isEmpty = false := by
      cases its with
      | nil => exact absurd (List.eq_nil_of_length_eq_zero r.length) hne
      | cons a b => rfl
    refine wpAny_binaryOp_repeat_ref (T := "tuple") (U := "int") (by decide) ⟨_, ho, rfl⟩ (fun s' => typeIs_int s' 0 t) noFill_tuple_mul F.fills_int_mul F.slot_int_rmul repeat_tuple F.slot_int_index.lookup
      (call_meets F.slot_int_rmul (typeIs_int s 0 t) F.entry_int_rmul (F.args_int_rmul_2 _ _) (int_rmul_tuple 0 t l its.toArray n dd sl)
        ⟨ho, rfl, ⟨_, ho, rfl⟩, call_meets F.slot_tuple_mul ⟨_, ho, rfl⟩ F.entry_tuple_mul (F.args_tuple_mul_2 _ _) (tuple_mul0 l its.toArray n dd sl t he) ⟨ho, ?_⟩⟩)
    exact ⟨.ref s.heap.objs.size, _, I.laid (t' := s.toks) (o := .tup []) (fun b ob e => Heap.get?_push_of_some _ e) (Nat.le_refl _) ⟨Nat.zero_le _, [], .nil, IsTup.new _ _⟩, rfl, q _ (I.hok.fresh (Nat.le_refl _))⟩
  · exact op_repA pins s σ H x y v u Q I rx ry h
end HL

namespace HL
open PySem PySem.Spec PyProof.Rows L2
/-! {t: v}, t a tuple of ints and texts -/
def tDisp1T (tk tv : TE) : TE := fun σ H Q => ∀ p, H p = none → tk σ (upd H p (.dT [])) fun x H1 => tv σ H1 fun y H2 => ∃ (k : List Key) (b : Addr), x = .ref b ∧ H2 b = some (.tup (k.map kV)) ∧ H2 p = some (.dT []) ∧ Q (.ref p) (upd H2 p (.dT [(k, y)]))
theorem pe_disp1T {X : Cx} {ke ve : Expr} {pos : Pos} {tk tv : TE} (hu : X.A.units + 1 < cLine) (hk : PE X ke tk) (hv : PE X ve tv) : PE X (.Dict [some ke] [ve] pos) (tDisp1T tk tv) := by
  refine ⟨fun pins s σ H Q I q => ?_⟩
  have hn := I.hok.fresh (Nat.le_refl s.heap.objs.size)
  have I1 := I.laid (a := s.heap.objs.size) (o := .dT []) (h' := s.heap.push { cls := .type "dict", data := .dict #[] }) (t' := s.toks) (fun _ _ e => Heap.get?_push_of_some _ e) (Nat.le_refl _) (dt_empty s.heap I.big)
  rw [arm_eval_Dict, zip_pairTrees [some ke] [ve] X.env pos rfl rfl, dictDisplay_pairs (pairTrees [some ke] [ve] X.env pos) (fun z => by cases z) (by show 1 < 17; decide)]
  refine wpAny_bind (wpAny_standAt (wpAny_bind ?_))
  unfold subDict
  refine wpAny_bind (wpAny_alloc (wpAny_bind (wpAny_holding ?_)))
  rw [if_pos (show (pairTrees [some ke] [ve] X.env pos).length ≤ 15 by show 1 ≤ 15; decide)]
  refine wpAny_bind (pairTrees_cons_walk (thn (hk.run pins _ σ _ _ I1 (q _ hn)) fun u s1 ⟨x, H1, I2, rx, q1⟩ => thn (hv.run pins s1 σ H1 _ I2 q1) fun w2 s2 ⟨y, H2, I3, ry, q2⟩ => pairTrees_nil_walk (wpAny_holding ?_)))
  obtain ⟨k, b, rfl, hb, hp, q3⟩ := q2
  cases (show u = Value.ref b from rx)
  obtain ⟨z, hd, xs, rel, dd⟩ := dt_of I3.hok hp
  rw [List.forIn_cons]
  refine wpAny_bind (wpAny_bind ?_)
  show wpAny (model X.prog X.w) X.A (dictSet s.heap.objs.size (.ref b) w2 >>= fun _ => pure (ForInStep.yield PUnit.unit)) _ _ _
  refine wpAny_bind (wpAny_dictSet_heap (hsz := by rw [← Paired.length rel]; exact z) (show (tupleKind (mixKind X.prog X.w)).room X.A from Nat.lt_of_le_of_lt (Nat.le_succ _) hu) (key_of I3.hok hb) dd fun h' dd' hs => wpAny_pure ?_)
  show wpAny (model X.prog X.w) X.A (forIn [] PUnit.unit _) _ _ _
  rw [List.forIn_nil]
  refine wpAny_pure (wpAny_pure (wpAny_pure (wpAny_pure ⟨.ref s.heap.objs.size, _, ?_, rfl, q3⟩)))
  obtain ⟨o, es, ep, hq, h2, h3, h4, _, h5⟩ := dd'
  cases rel
  refine d_write I3 (by rw [hp]; exact True.intro) hs ⟨o, hq⟩ ⟨by show 1 ≤ sizeLine; decide, hd, _, ((KT.put (H := H2) .nil k hb ry)).keeps fun c ys ec => ?_, o, es, ep, hq, h2, h3, h4, h5⟩
  rw [upd_ne (ne_of ec hp (fun z => nomatch z))]
  exact ec
end HL

namespace HL
/-! ### rows, and how many ways there are to make one of rows -/
/-- b less h, taken k times -/
def subR (b h : List Int) (k : Int) : List Int := (b.zip h).map fun q => q.1 - k * q.2
def zeroB (b : List Int) : Bool := b.all fun z => decide (z = 0)
def nnB (b : List Int) : Bool := b.all fun z => decide (0 ≤ z)
def cnt : List (List Int) → List Int → Nat
  | [], b => if zeroB b = true then 1 else 0
  | h :: t, b => ((List.range (b.sum.toNat + 1)).map fun (k : Nat) => cnt t (subR b h (k : Int))).sum
/-- a kind: as wide as told, nothing below 0, something above it -/
def Kd (g : Nat) (h : List Int) : Prop := h.length = g ∧ (∀ n ∈ h, 0 ≤ n) ∧ ∃ n ∈ h, 0 < n
theorem sum_zeroN : ∀ {l : List Nat}, (∀ x ∈ l, x = 0) → l.sum = 0
  | [], _ => rfl
  | x :: l, h => by rw [List.sum_cons, h x List.mem_cons_self, sum_zeroN fun y hy => h y (List.mem_cons_of_mem _ hy)]
theorem nnB_iff {b : List Int} : nnB b = true ↔ ∀ n ∈ b, 0 ≤ n := by
  unfold nnB
  rw [List.all_eq_true]
  exact ⟨fun h n hn => of_decide_eq_true (h n hn), fun h n hn => decide_eq_true (h n hn)⟩
theorem zeroB_iff {b : List Int} : zeroB b = true ↔ ∀ n ∈ b, n = 0 := by
  unfold zeroB
  rw [List.all_eq_true]
  exact ⟨fun h n hn => of_decide_eq_true (h n hn), fun h n hn => decide_eq_true (h n hn)⟩
theorem subR_len {b h : List Int} {k : Int} (e : b.length = h.length) : (subR b h k).length = b.length := by
  unfold subR
  rw [List.length_map, List.length_zip]
  omega
theorem subR_cons {x y : Int} {b h : List Int} {k : Int} : subR (x :: b) (y :: h) k = (x - k * y) :: subR b h k := rfl
theorem subR_zero : ∀ {b h : List Int}, b.length = h.length → subR b h 0 = b
  | [], [], _ => rfl
  | x :: b, y :: h, e => by
    rw [subR_cons, subR_zero (by simpa using e), Int.zero_mul, Int.sub_zero]
  | [], _ :: _, e => by simp at e
  | _ :: _, [], e => by simp at e
theorem subR_add : ∀ {b h : List Int} {j k : Int}, subR (subR b h j) h k = subR b h (j + k)
  | [], _, _, _ => rfl
  | _ :: _, [], _, _ => rfl
  | x :: b, y :: h, j, k => by
    rw [subR_cons, subR_cons, subR_cons, subR_add, Int.add_mul]
    congr 1
    omega
theorem subR_comm : ∀ {b h g : List Int} {j k : Int}, subR (subR b h j) g k = subR (subR b g k) h j
  | [], _, _, _, _ => by simp [subR]
  | _ :: _, [], g, _, _ => by cases g <;> simp [subR]
  | _ :: _, _ :: _, [], _, _ => by simp [subR]
  | x :: b, y :: h, z :: g, j, k => by
    rw [subR_cons, subR_cons, subR_cons, subR_cons, subR_comm]
    congr 1
    omega
theorem subR_sum : ∀ {b h : List Int} {k : Int}, b.length = h.length → (subR b h k).sum = b.sum - k * h.sum
  | [], [], k, _ => by simp [subR]
  | x :: b, y :: h, k, e => by
    rw [subR_cons, List.sum_cons, List.sum_cons, List.sum_cons, subR_sum (by simpa using e), Int.mul_add]
    omega
  | [], _ :: _, _, e => by simp at e
  | _ :: _, [], _, e => by simp at e
theorem sum_nn : ∀ {b : List Int}, (∀ n ∈ b, 0 ≤ n) → 0 ≤ b.sum
  | [], _ => Int.le_refl _
  | x :: b, h => by
    rw [List.sum_cons]
    have := h x List.mem_cons_self
    have := sum_nn fun n hn => h n (List.mem_cons_of_mem _ hn)
    omega
theorem sum_kd {g : Nat} {h : List Int} (k : Kd g h) : 1 ≤ h.sum := by
  have k2 := k.2.1
  obtain ⟨n, hn, hp⟩ := k.2.2
  clear k
  induction h with
  | nil => cases hn
  | cons x h ih =>
    rw [List.sum_cons]
    have x0 := k2 x List.mem_cons_self
    have r0 := sum_nn fun n hn => k2 n (List.mem_cons_of_mem _ hn)
    rcases List.mem_cons.mp hn with e | e
    · omega
    · have := ih (fun n hn => k2 n (List.mem_cons_of_mem _ hn)) e
      omega
/-- what is below 0 somewhere stays so -/
theorem sub_neg : ∀ {b h : List Int} {k : Int}, b.length = h.length → (∀ n ∈ h, 0 ≤ n) → 0 ≤ k → nnB b = false → nnB (subR b h k) = false
  | [], [], _, _, _, _, e => by cases e
  | x :: b, y :: h, k, el, hn, hk, e => by
    unfold nnB at e ⊢
    rw [subR_cons, List.all_cons]
    rw [List.all_cons] at e
    have y0 := hn y List.mem_cons_self
    by_cases c : 0 ≤ x
    · rw [decide_eq_true c, Bool.true_and] at e
      have := sub_neg (b := b) (h := h) (k := k) (by simpa using el) (fun n hn' => hn n (List.mem_cons_of_mem _ hn')) hk e
      unfold nnB at this
      rw [this, Bool.and_false]
    · have : ¬ 0 ≤ x - k * y := by
        have := Int.mul_nonneg hk y0
        omega
      rw [decide_eq_false this, Bool.false_and]
  | [], _ :: _, _, e, _, _, _ => by simp at e
  | _ :: _, [], _, e, _, _, _ => by simp at e
theorem cnt_neg {g : Nat} : ∀ {l : List (List Int)} {b : List Int}, (∀ h ∈ l, Kd g h) → b.length = g → nnB b = false → cnt l b = 0
  | [], b, _, _, e => by
    unfold cnt
    rw [if_neg fun z => ?_]
    have : nnB b = true := nnB_iff.mpr fun n hn => by rw [zeroB_iff.mp z n hn]; exact Int.le_refl _
    rw [this] at e
    cases e
  | h :: t, b, hl, hb, e => by
    unfold cnt
    have kh := hl h List.mem_cons_self
    refine sum_zeroN fun x hx => ?_
    obtain ⟨k, _, rfl⟩ := List.mem_map.mp hx
    have eb : b.length = h.length := by rw [hb, kh.1]
    exact cnt_neg (fun h' hh => hl h' (List.mem_cons_of_mem _ hh)) (by rw [subR_len eb, hb]) (sub_neg eb kh.2.1 (by omega) e)
theorem sum_range_zero (f : Nat → Nat) {m : Nat} : ∀ {n : Nat}, (∀ k, m ≤ k → f k = 0) → m ≤ n → ((List.range n).map f).sum = ((List.range m).map f).sum
  | 0, _, h => by rw [Nat.le_zero.mp h]
  | n + 1, hf, h => by
    by_cases c : m = n + 1
    · rw [c]
    · rw [List.range_succ, List.map_append, List.sum_append, sum_range_zero f hf (by omega)]
      simp [hf n (by omega)]
theorem sub_far {g : Nat} {b h : List Int} {k : Nat} (kh : Kd g h) (hb : b.length = g) (hk : b.sum.toNat < k) : nnB (subR b h (k : Int)) = false := by
  have eb : b.length = h.length := by rw [hb, kh.1]
  cases e : nnB (subR b h (k : Int)) with
  | false => rfl
  | true =>
    have h0 := sum_nn (nnB_iff.mp e)
    rw [subR_sum eb] at h0
    have h1 := sum_kd kh
    have : (k : Int) * 1 ≤ (k : Int) * h.sum := Int.mul_le_mul_of_nonneg_left h1 (by omega)
    omega
/-- any number of turns that is great enough -/
theorem cnt_to {g : Nat} {h : List Int} {t : List (List Int)} {b : List Int} {m : Nat} (hl : ∀ x ∈ h :: t, Kd g x) (hb : b.length = g) (hm : b.sum.toNat + 1 ≤ m) : cnt (h :: t) b = ((List.range m).map fun (k : Nat) => cnt t (subR b h (k : Int))).sum := by
  have kh := hl h List.mem_cons_self
  have eb : b.length = h.length := by rw [hb, kh.1]
  rw [show cnt (h :: t) b = ((List.range (b.sum.toNat + 1)).map fun (k : Nat) => cnt t (subR b h (k : Int))).sum from rfl]
  exact (sum_range_zero _ (fun k hk => cnt_neg (fun x hx => hl x (List.mem_cons_of_mem _ hx)) (by rw [subR_len eb, hb]) (sub_far kh hb (by omega))) hm).symm
theorem sum_range_shift (f : Nat → Nat) (n : Nat) : ((List.range (n + 1)).map f).sum = f 0 + ((List.range n).map fun k => f (k + 1)).sum := by
  rw [List.range_succ_eq_map, List.map_cons, List.sum_cons, List.map_map]
  rfl
theorem sub_sum_le {g : Nat} {b h : List Int} (kh : Kd g h) (hb : b.length = g) : (subR b h 1).sum.toNat + 1 ≤ b.sum.toNat + 1 := by
  have eb : b.length = h.length := by rw [hb, kh.1]
  rw [subR_sum eb]
  have := sum_kd kh
  omega
/-- the table's own row: without the kind, and with one hamper of it taken out -/
theorem cnt_step {g : Nat} {h : List Int} {t : List (List Int)} {b : List Int} (hl : ∀ x ∈ h :: t, Kd g x) (hb : b.length = g) : cnt (h :: t) b = cnt t b + cnt (h :: t) (subR b h 1) := by
  have kh := hl h List.mem_cons_self
  have eb : b.length = h.length := by rw [hb, kh.1]
  rw [cnt_to hl hb (m := b.sum.toNat + 1 + 1) (by omega), sum_range_shift, show ((0 : Nat) : Int) = 0 from rfl, subR_zero eb, cnt_to hl (by rw [subR_len eb, hb]) (sub_sum_le kh hb)]
  congr 2
  refine List.map_congr_left fun k _ => ?_
  rw [subR_add]
  congr 2
  omega
theorem sum_map_add (f g : Nat → Nat) : ∀ l : List Nat, (l.map fun k => f k + g k).sum = (l.map f).sum + (l.map g).sum
  | [] => rfl
  | x :: l => by
    rw [List.map_cons, List.map_cons, List.map_cons, List.sum_cons, List.sum_cons, List.sum_cons, sum_map_add f g l]
    omega
/-- the same of any kind of the lot -/
theorem cnt_cut {g : Nat} : ∀ {l : List (List Int)} {b : List Int} {i : Nat} {h : List Int}, (∀ x ∈ l, Kd g x) → b.length = g → l[i]? = some h → cnt l b = cnt (l.take i ++ l.drop (i + 1)) b + cnt l (subR b h 1)
  | [], _, _, _, _, _, e => by simp at e
  | x :: l, b, 0, h, hl, hb, e => by
    cases Option.some.inj e
    exact cnt_step hl hb
  | x :: l, b, i + 1, h, hl, hb, e => by
    have e' : l[i]? = some h := e
    have kx := hl x List.mem_cons_self
    have kh : Kd g h := hl h (List.mem_cons_of_mem _ (List.mem_of_getElem? e'))
    have ebx : b.length = x.length := by rw [hb, kx.1]
    have ebh : b.length = h.length := by rw [hb, kh.1]
    have hl' : ∀ y ∈ l, Kd g y := fun y hy => hl y (List.mem_cons_of_mem _ hy)
    have hlc : ∀ y ∈ x :: (l.take i ++ l.drop (i + 1)), Kd g y := fun y hy => by
      rcases List.mem_cons.mp hy with h | h
      · rw [h]; exact kx
      · rcases List.mem_append.mp h with h | h
        · exact hl' y (List.mem_of_mem_take h)
        · exact hl' y (List.mem_of_mem_drop h)
    show cnt (x :: l) b = cnt (x :: (l.take i ++ l.drop (i + 1))) b + cnt (x :: l) (subR b h 1)
    rw [cnt_to hl hb (Nat.le_refl _), cnt_to hlc hb (Nat.le_refl _), cnt_to hl (by rw [subR_len ebh, hb]) (sub_sum_le kh hb), ← sum_map_add]
    congr 1
    refine List.map_congr_left fun k _ => ?_
    have := cnt_cut hl' (b := subR b x (k : Int)) (by rw [subR_len ebx, hb]) e'
    rw [this, subR_comm]
/-- nothing of no goods -/
theorem cnt_nought {g : Nat} : ∀ {l : List (List Int)} {b : List Int}, (∀ x ∈ l, Kd g x) → b.length = g → zeroB b = true → cnt l b = 1
  | [], b, _, _, e => by
    unfold cnt
    rw [if_pos e]
  | h :: t, b, hl, hb, e => by
    have kh := hl h List.mem_cons_self
    have eb : b.length = h.length := by rw [hb, kh.1]
    have es : b.sum = 0 := by
      clear hb eb hl
      induction b with
      | nil => rfl
      | cons x b ih =>
        rw [List.sum_cons, zeroB_iff.mp e x List.mem_cons_self, ih (zeroB_iff.mpr fun n hn => zeroB_iff.mp e n (List.mem_cons_of_mem _ hn))]
        rfl
    rw [cnt_step hl hb, cnt_nought (fun x hx => hl x (List.mem_cons_of_mem _ hx)) hb e, cnt_neg (l := h :: t) hl (by rw [subR_len eb, hb])]
    have := sub_far (k := 1) kh hb (by rw [es]; decide)
    exact this
/-- where something is made of something, some kind goes in -/
theorem cnt_some {g : Nat} {b : List Int} (hb : b.length = g) (hz : zeroB b = false) : ∀ {l : List (List Int)}, (∀ x ∈ l, Kd g x) → (∀ h ∈ l, nnB (subR b h 1) = false) → cnt l b = 0
  | [], _, _ => by
    unfold cnt
    rw [hz]
    rfl
  | h :: t, hl, hn => by
    have kh := hl h List.mem_cons_self
    have eb : b.length = h.length := by rw [hb, kh.1]
    rw [cnt_step hl hb, cnt_some hb hz (fun x hx => hl x (List.mem_cons_of_mem _ hx)) (fun x hx => hn x (List.mem_cons_of_mem _ hx)), cnt_neg (l := h :: t) hl (by rw [subR_len eb, hb]) (hn h List.mem_cons_self)]
/-- the last kind first -/
theorem cnt_last {g : Nat} {h : List Int} (kh : Kd g h) : ∀ {l : List (List Int)} {b : List Int} {m : Nat}, (∀ x ∈ l, Kd g x) → b.length = g → b.sum.toNat + 1 ≤ m → cnt (l ++ [h]) b = ((List.range m).map fun (k : Nat) => cnt l (subR b h (k : Int))).sum
  | [], b, m, _, hb, hm => cnt_to (fun x hx => by rw [List.mem_singleton.mp hx]; exact kh) hb hm
  | x :: l, b, m, hl, hb, hm => by
    have kx := hl x List.mem_cons_self
    have ebx : b.length = x.length := by rw [hb, kx.1]
    have ebh : b.length = h.length := by rw [hb, kh.1]
    have hl' : ∀ y ∈ l, Kd g y := fun y hy => hl y (List.mem_cons_of_mem _ hy)
    have hlh : ∀ y ∈ x :: (l ++ [h]), Kd g y := fun y hy => by
      rcases List.mem_cons.mp hy with e | e
      · rw [e]; exact kx
      · rcases List.mem_append.mp e with e | e
        · exact hl' y e
        · rw [List.mem_singleton.mp e]; exact kh
    have small : ∀ (z : List Int) (k : Nat), Kd g z → (subR b z (k : Int)).sum.toNat + 1 ≤ m := fun z k kz => by
      rw [subR_sum (by rw [hb, kz.1])]
      have := sum_kd kz
      have : 0 ≤ (k : Int) * z.sum := Int.mul_nonneg (by omega) (by omega)
      omega
    show cnt (x :: (l ++ [h])) b = _
    rw [cnt_to hlh hb hm]
    have e1 : ∀ j : Nat, cnt (l ++ [h]) (subR b x (j : Int)) = ((List.range m).map fun (k : Nat) => cnt l (subR (subR b x (j : Int)) h (k : Int))).sum := fun j =>
      cnt_last kh hl' (by rw [subR_len ebx, hb]) (small x j kx)
    have e2 : ∀ k : Nat, cnt (x :: l) (subR b h (k : Int)) = ((List.range m).map fun (j : Nat) => cnt l (subR (subR b x (j : Int)) h (k : Int))).sum := fun k => by
      rw [cnt_to hl (by rw [subR_len ebh, hb]) (small h k kh)]
      congr 1
      refine List.map_congr_left fun j _ => ?_
      rw [subR_comm]
    rw [show ((List.range m).map fun (k : Nat) => cnt (l ++ [h]) (subR b x (k : Int))) = ((List.range m).map fun (j : Nat) => ((List.range m).map fun (k : Nat) => cnt l (subR (subR b x (j : Int)) h (k : Int))).sum) from List.map_congr_left fun j _ => e1 j,
      show ((List.range m).map fun (k : Nat) => cnt (x :: l) (subR b h (k : Int))) = ((List.range m).map fun (k : Nat) => ((List.range m).map fun (j : Nat) => cnt l (subR (subR b x (j : Int)) h (k : Int))).sum) from List.map_congr_left fun k _ => e2 k]
    generalize List.range m = rs
    have swap : ∀ (xs ys : List Nat) (f : Nat → Nat → Nat), (xs.map fun j => (ys.map fun k => f j k).sum).sum = (ys.map fun k => (xs.map fun j => f j k).sum).sum := fun xs ys f => by
      induction xs with
      | nil =>
        rw [List.map_nil, List.sum_nil]
        refine (sum_zeroN fun z hz => ?_).symm
        obtain ⟨k, _, rfl⟩ := List.mem_map.mp hz
        rfl
      | cons x xs ih =>
        rw [List.map_cons, List.sum_cons, ih, ← sum_map_add]
        rfl
    exact swap rs rs fun j k => cnt l (subR (subR b x (j : Int)) h (k : Int))
/-! ### two lots beside one another -/
theorem subR_app {b1 b2 h1 h2 : List Int} {k : Int} (e : b1.length = h1.length) : subR (b1 ++ b2) (h1 ++ h2) k = subR b1 h1 k ++ subR b2 h2 k := by
  unfold subR
  rw [List.zip_append e, List.map_append]
theorem subR_nought : ∀ {b : List Int} {n : Nat} {k : Int}, b.length = n → subR b (List.replicate n 0) k = b
  | [], 0, _, _ => rfl
  | x :: b, n + 1, k, e => by
    rw [List.replicate_succ, subR_cons, subR_nought (by simpa using e), Int.mul_zero, Int.sub_zero]
  | [], n + 1, _, e => by simp at e
  | _ :: _, 0, _, e => by simp at e
theorem zero_app {b1 b2 : List Int} : zeroB (b1 ++ b2) = (zeroB b1 && zeroB b2) := by
  unfold zeroB
  rw [List.all_append]
theorem kd_left {g w : Nat} {h : List Int} (k : Kd g h) : Kd (g + w) (h ++ List.replicate w 0) :=
  ⟨by rw [List.length_append, List.length_replicate, k.1], fun n hn => by
    rcases List.mem_append.mp hn with e | e
    · exact k.2.1 n e
    · rw [List.eq_of_mem_replicate e]
      exact Int.le_refl _, let ⟨n, h1, h2⟩ := k.2.2; ⟨n, List.mem_append_left _ h1, h2⟩⟩
theorem kd_right {g w : Nat} {h : List Int} (k : Kd g h) : Kd (w + g) (List.replicate w 0 ++ h) :=
  ⟨by rw [List.length_append, List.length_replicate, k.1], fun n hn => by
    rcases List.mem_append.mp hn with e | e
    · rw [List.eq_of_mem_replicate e]
      exact Int.le_refl _
    · exact k.2.1 n e, let ⟨n, h1, h2⟩ := k.2.2; ⟨n, List.mem_append_right _ h1, h2⟩⟩
theorem sum_mul (f : Nat → Nat) (c : Nat) : ∀ l : List Nat, (l.map fun k => c * f k).sum = c * (l.map f).sum
  | [] => rfl
  | x :: l => by rw [List.map_cons, List.map_cons, List.sum_cons, List.sum_cons, sum_mul f c l, Nat.mul_add]
theorem sum_mul' (f : Nat → Nat) (c : Nat) : ∀ l : List Nat, (l.map fun k => f k * c).sum = (l.map f).sum * c
  | [] => by simp
  | x :: l => by rw [List.map_cons, List.map_cons, List.sum_cons, List.sum_cons, sum_mul' f c l, Nat.add_mul]
theorem cnt_right {g w : Nat} {b1 : List Int} (hb1 : b1.length = w) (n1 : ∀ n ∈ b1, 0 ≤ n) : ∀ {l : List (List Int)} {b2 : List Int}, (∀ x ∈ l, Kd g x) → b2.length = g → (∀ n ∈ b2, 0 ≤ n) → cnt (l.map fun r => List.replicate w 0 ++ r) (b1 ++ b2) = (if zeroB b1 = true then 1 else 0) * cnt l b2
  | [], b2, _, _, _ => by
    show cnt [] (b1 ++ b2) = _
    unfold cnt
    rw [zero_app]
    cases zeroB b1 <;> cases zeroB b2 <;> rfl
  | h :: t, b2, hl, hb2, n2 => by
    have kh := hl h List.mem_cons_self
    have hl' : ∀ x ∈ t, Kd g x := fun x hx => hl x (List.mem_cons_of_mem _ hx)
    have hlm : ∀ x ∈ (List.replicate w 0 ++ h) :: (t.map fun r => List.replicate w 0 ++ r), Kd (w + g) x := fun x hx => by
      rcases List.mem_cons.mp hx with e | e
      · rw [e]; exact kd_right kh
      · obtain ⟨r, h1, rfl⟩ := List.mem_map.mp e
        exact kd_right (hl' r h1)
    have es : b2.sum.toNat + 1 ≤ (b1 ++ b2).sum.toNat + 1 := by
      rw [List.sum_append]
      have := sum_nn n1
      omega
    rw [List.map_cons, cnt_to hlm (by rw [List.length_append, hb1, hb2]) (Nat.le_refl _), cnt_to hl hb2 es, ← sum_mul]
    congr 1
    refine List.map_congr_left fun k _ => ?_
    rw [subR_app (by rw [hb1, List.length_replicate]), subR_nought hb1]
    by_cases c : nnB (subR b2 h (k : Int)) = true
    · exact cnt_right hb1 n1 hl' (by rw [subR_len (by rw [hb2, kh.1]), hb2]) (nnB_iff.mp c)
    · have c' := Bool.eq_false_iff.mpr c
      rw [cnt_neg (g := w + g) (fun x hx => hlm x (List.mem_cons_of_mem _ hx)) (by rw [List.length_append, hb1, subR_len (by rw [hb2, kh.1]), hb2]) ?_, cnt_neg hl' (by rw [subR_len (by rw [hb2, kh.1]), hb2]) c', Nat.mul_zero]
      unfold nnB at c' ⊢
      rw [List.all_append, c', Bool.and_false]
theorem cnt_beside {g1 g2 : Nat} {l2 : List (List Int)} {b2 : List Int} (h2 : ∀ x ∈ l2, Kd g2 x) (hb2 : b2.length = g2) (n2 : ∀ n ∈ b2, 0 ≤ n) : ∀ {l1 : List (List Int)} {b1 : List Int}, (∀ x ∈ l1, Kd g1 x) → b1.length = g1 → (∀ n ∈ b1, 0 ≤ n) →
    cnt ((l1.map fun r => r ++ List.replicate g2 0) ++ l2.map fun r => List.replicate g1 0 ++ r) (b1 ++ b2) = cnt l1 b1 * cnt l2 b2
  | [], b1, _, hb1, n1 => by
    rw [List.map_nil, List.nil_append, cnt_right hb1 n1 h2 hb2 n2]
    rfl
  | h :: t, b1, hl, hb1, n1 => by
    have kh := hl h List.mem_cons_self
    have hl' : ∀ x ∈ t, Kd g1 x := fun x hx => hl x (List.mem_cons_of_mem _ hx)
    have hlm : ∀ x ∈ (h ++ List.replicate g2 0) :: ((t.map fun r => r ++ List.replicate g2 0) ++ l2.map fun r => List.replicate g1 0 ++ r), Kd (g1 + g2) x := fun x hx => by
      rcases List.mem_cons.mp hx with e | e
      · rw [e]; exact kd_left kh
      · rcases List.mem_append.mp e with e | e
        · obtain ⟨r, q1, rfl⟩ := List.mem_map.mp e
          exact kd_left (hl' r q1)
        · obtain ⟨r, q1, rfl⟩ := List.mem_map.mp e
          exact kd_right (h2 r q1)
    have es : b1.sum.toNat + 1 ≤ (b1 ++ b2).sum.toNat + 1 := by
      rw [List.sum_append]
      have := sum_nn n2
      omega
    have eb : b1.length = h.length := by rw [hb1, kh.1]
    rw [List.map_cons, List.cons_append, cnt_to hlm (by rw [List.length_append, hb1, hb2]) (Nat.le_refl _), cnt_to hl hb1 es, ← sum_mul']
    congr 1
    refine List.map_congr_left fun k _ => ?_
    rw [subR_app eb, subR_nought hb2]
    by_cases c : nnB (subR b1 h (k : Int)) = true
    · exact cnt_beside h2 hb2 n2 hl' (by rw [subR_len eb, hb1]) (nnB_iff.mp c)
    · have c' := Bool.eq_false_iff.mpr c
      rw [cnt_neg (g := g1 + g2) (fun x hx => hlm x (List.mem_cons_of_mem _ hx)) (by rw [List.length_append, hb2, subR_len eb, hb1]) ?_, cnt_neg hl' (by rw [subR_len eb, hb1]) c', Nat.zero_mul]
      unfold nnB at c' ⊢
      rw [List.all_append, c', Bool.false_and]
end HL

namespace HL
open PySem PySem.Spec PyProof.Rows L2
open C8 (pss_cut)
/-! ### the text -/
def topS (i : Nat) : Stmt := PySem.Challenge.pw_hamperlot_k10_whole_counts_by_halves.main.body.getD i (.Pass ⟨0, 0, 0, 0⟩)
abbrev sIsHold : Stmt := topS 12
abbrev sLook : Stmt := topS 13
abbrev sGoods : Stmt := topS 14
abbrev sFirst : Stmt := topS 15
abbrev sLookBill : Stmt := topS 16
abbrev sWithout : Stmt := topS 17
abbrev sBeside : Stmt := topS 18
abbrev sLess : Stmt := topS 20
abbrev sBox : Stmt := topS 23
abbrev sBoth : Stmt := topS 24
abbrev sCells : Stmt := topS 25
abbrev sOneMore : Stmt := topS 26
abbrev sTables : Stmt := topS 27
abbrev sHowMany : Stmt := topS 28
abbrev sFeed : Stmt := topS 30
abbrev sDraw : Stmt := topS 31
abbrev sSame : Stmt := topS 32
abbrev sHold : Stmt := topS 33
abbrev sLot : Stmt := topS 34
abbrev sSmall : Stmt := topS 35
abbrev sMinus : Stmt := topS 36
abbrev sTimes : Stmt := topS 37
abbrev sWithin : Stmt := topS 38
abbrev sNoughts : Stmt := topS 39
abbrev sLaw : Stmt := topS 40
/-! ### heaps -/
/-- all that stood but at f stands -/
def Kp (f : Addr) (H H' : Hp) : Prop := ∀ b o, b ≠ f → H b = some o → H' b = some o
theorem Kp.refl (f : Addr) (H : Hp) : Kp f H H := fun _ _ _ h => h
theorem Kp.trans {f : Addr} {H H1 H2 : Hp} (a : Kp f H H1) (b : Kp f H1 H2) : Kp f H H2 := fun c o n h => b c o n (a c o n h)
theorem Same.kp {f : Addr} {H H' : Hp} (a : Same H H') : Kp f H H' := fun b o _ h => a b o h
theorem Kp.put {f : Addr} {H : Hp} {o : HO} : Kp f H (upd H f o) := fun b _ n h => by
  rw [upd_ne n]
  exact h
theorem same_new {H : Hp} {p : Addr} {o : HO} (h : H p = none) : Same H (upd H p o) := fun b x e => by
  rw [upd_ne (ne_of_none e h)]
  exact e
theorem Kp.new {f : Addr} {H : Hp} {p : Addr} {o : HO} (h : H p = none) : Kp f H (upd H p o) := Same.kp (same_new h)
/-- the feed at f -/
def FeedAt (c : Addr) (H : Hp) (f : Addr) : Prop := ∃ (ns : List Int) (i b m n : Int),
  H f = some (.lst [.ref c, .int i, .int b, .int m, .int n]) ∧ H c = some (.lst (ns.map V.int)) ∧ 0 ≤ i ∧ 0 ≤ b ∧ 0 ≤ m ∧ m < 2147483647
theorem FeedAt.same {c : Addr} {H H' : Hp} {f : Addr} (F : FeedAt c H f) (s : Same H H') : FeedAt c H' f := by
  obtain ⟨ns, i, b, m, n, h1, h2, h3⟩ := F
  exact ⟨ns, i, b, m, n, s _ _ h1, s _ _ h2, h3⟩
theorem FeedAt.new {c : Addr} {H : Hp} {f p : Addr} {o : HO} (F : FeedAt c H f) (h : H p = none) : FeedAt c (upd H p o) f := F.same (same_new h)
theorem FeedAt.ne {c : Addr} {H : Hp} {f p : Addr} (F : FeedAt c H f) (h : H p = none) : p ≠ f := by
  obtain ⟨ns, i, b, m, n, h1, _⟩ := F
  exact fun e => by
    rw [e, h1] at h
    cases h
theorem FeedAt.neC {c : Addr} {H : Hp} {f p : Addr} (F : FeedAt c H f) (h : H p = none) : p ≠ c := by
  obtain ⟨ns, i, b, m, n, _, h1, _⟩ := F
  exact fun e => by
    rw [e, h1] at h
    cases h
theorem FeedAt.tup {c : Addr} {H : Hp} {f p : Addr} {xs : List V} (F : FeedAt c H f) (h : H p = some (.tup xs)) : p ≠ f := by
  obtain ⟨ns, i, b, m, n, h1, _⟩ := F
  exact ne_of h h1 (fun e => by cases e)
/-- another thing than the feed is written -/
theorem FeedAt.put {c : Addr} {H : Hp} {f D : Addr} {o : HO} (F : FeedAt c H f) (n1 : D ≠ f) (n2 : D ≠ c) : FeedAt c (upd H D o) f := by
  obtain ⟨ns, i, b, m, n, h1, h2, h3⟩ := F
  exact ⟨ns, i, b, m, n, by rw [upd_ne (Ne.symm n1)]; exact h1, by rw [upd_ne (Ne.symm n2)]; exact h2, h3⟩
/-- where nothing stood behind, nothing stood ahead -/
theorem Kp.free {f : Addr} {H H' : Hp} {p : Addr} (k : Kp f H H') (n : p ≠ f) (h : H' p = none) : H p = none := by
  cases e : H p with
  | none => rfl
  | some o =>
    rw [k _ _ n e] at h
    cases h
/-- what is new since H may be written -/
theorem Kp.late {f : Addr} {H H' : Hp} {D : Addr} {o : HO} (k : Kp f H H') (nD : H D = none) : Kp f H (upd H' D o) := fun b x n e => by
  rw [upd_ne (ne_of_none e nD)]
  exact k _ _ n e
theorem same_late {H H' : Hp} {D : Addr} {o : HO} (k : Same H H') (nD : H D = none) : Same H (upd H' D o) := fun b x e => by
  rw [upd_ne (ne_of_none e nD)]
  exact k _ _ e
theorem ref_ne {c : Addr} {ns : List Int} {r : List V} : (V.ref c :: r) ≠ ns.map V.int := by
  cases ns with
  | nil => exact fun e => by cases e
  | cons x xs => exact fun e => by simp at e
/-! ### the feed -/
theorem scFeed : FnScope ["_law_script"] ["_law_script"] (defScope sFeed) := ⟨rfl, rfl, rfl, by decide +kernel, rfl, by decide +kernel, by decide +kernel⟩
theorem scDraw : FnScope ["_law_feed_here", "_law_many", "_law_cell", "_law_digit", "_law_mix"] ["_law_feed_here", "_law_many"] (defScope sDraw) := ⟨rfl, rfl, rfl, by decide +kernel, rfl, by decide +kernel, by decide +kernel⟩
section
variable {P : Program} {w : World} {K : PySem.W.Frag} {mg : Str → Option Value} {base : Heap}
def spFeed (K : PySem.W.Frag) : Sp := fun vs H Q _ => ∃ (a : Addr) (ns : List Int), vs = [.ref a] ∧ SqL K H a (ns.map V.int) ∧ ns.length ≤ 63 ∧
  ∀ H' f c, Same H H' → H f = none → FeedAt c H' f → Q (.ref f) H'
theorem cut_ints (ns : List Int) (lo hi : Option Int) : ∃ ms : List Int, cutV (ns.map V.int) lo hi = ms.map V.int := by
  refine ⟨(ns.drop (HT.sIx ns.length 0 lo)).take (HT.sIx ns.length ns.length hi - HT.sIx ns.length 0 lo), ?_⟩
  unfold cutV
  rw [List.length_map, List.map_take, List.map_drop]
theorem ok_feed {f : Addr} {fd : FuncData} {k : Nat} (F : Fun K "_law_feed" "_law_feed" sFeed f fd) (ml : mg "list" = none) : FnOk P w K mg base CX0 (k + 1) f fd ["_law_script"] (spFeed K) := by
  refine F.ok scFeed (fun vs H Q E h => ?_) (fun cdv A outer s H vs Q E hr h => ?_)
  · obtain ⟨a, ns, rfl, _⟩ := h
    rfl
  · obtain ⟨a, ns, rfl, hS, hlen, q⟩ := h
    refine ⟨_, pss_one (ps_ret (pe_lst (pa_cons (pe_callTy call_list_of (by rfl) ml (by decide +kernel) (pa_cons (pe_slice sl_list (pv 0) po_none (po_some pe_int)) pa_nil)) (pa_cons pe_int (pa_cons pe_int (pa_cons pe_int (pa_cons pe_int pa_nil))))))), ?_⟩
    obtain ⟨ms, hms⟩ := cut_ints ns none (some 63)
    refine ⟨.ref a, rfl, 63, rfl, a, ns.map V.int, rfl, hS, fun c nc => ?_⟩
    rw [hms]
    refine ⟨c, ms.map V.int, rfl, .inl (SqL.of upd_same), fun l nl => ?_⟩
    refine ⟨(by show 5 ≤ sizeLine; decide), fun g ng => ?_⟩
    refine q _ g l ?_ ?_ ⟨ms, 0, 0, 9132, 0, upd_same, ?_, by decide, by decide, by decide, by decide⟩
    · exact (same_new nc).trans ((same_new nl).trans (same_new ng))
    · exact (same_new nc).free ((same_new nl).free ng)
    · rw [upd_ne (fun e => by rw [← e, upd_same] at ng; cases ng), upd_same]

theorem atI_int {ns : List Int} {i : Int} (h0 : 0 ≤ i) (h1 : i < (ns.length : Nat)) : ∃ z, atI (ns.map V.int) i = some (.int z) := by
  have hl : i.toNat < ns.length := by omega
  refine ⟨ns[i.toNat], ?_⟩
  have e : ((i.toNat : Nat) : Int) = i := by omega
  refine (congrArg (atI (ns.map V.int)) e.symm).trans (atI_nat (j := i.toNat) ?_)
  rw [List.getElem?_map, List.getElem?_eq_getElem hl]
  rfl
def spDraw : Sp := fun vs H Q _ => ∃ (f c : Addr) (n : Int), vs = [.ref f, .int n] ∧ 1 ≤ n ∧ n ≤ 1000000000000000000000000000000 ∧ FeedAt c H f ∧
  ∀ d H', 0 ≤ d → d < n → Kp f H H' → FeedAt c H' f → Q (.int d) H'
theorem ok_draw {f : Addr} {fd : FuncData} {k : Nat} (F : Fun K "_law_draw" "_law_draw" sDraw f fd) (ml : mg "len" = none) : FnOk P w K mg base CX0 (k + 1) f fd ["_law_feed_here", "_law_many"] spDraw := by
  refine F.ok scDraw (fun vs H Q E h => ?_) (fun cdv A outer s H vs Q E hr h => ?_)
  · obtain ⟨a, c, n, rfl, _⟩ := h
    rfl
  · obtain ⟨a, c, n, rfl, n1, n2, ⟨ns, i, b, m, t, h1, h2, i0, b0, m0, m1⟩, q⟩ := h
    refine ⟨_, pss_cut (ps_if (PW.pt (pw_and (pt_cmpR op_lt (pe_ix ix_list (pv 0) pe_int (fun _ _ => rfl)) (pv 1) (nomark _))
          (pw_and1 (pt_cmpR op_lt (pe_ix ix_list (pv 0) pe_int (fun _ _ => rfl)) (pe_callB call_len_seq (by rfl) ml PySem.boot_len (pa_cons (pe_ix ix_list (pv 0) pe_int (fun _ _ => rfl)) pa_nil)) (nomark _)))))
        (pss_cons (ps_set (i := 2) scDraw.nd rfl (.inl rfl) (pe_ix ix_list (pe_ix ix_list (pv 0) pe_int (fun _ _ => rfl)) (pe_ix ix_list (pv 0) pe_int (fun _ _ => rfl)) (fun _ _ => rfl)))
        (pss_cons (ps_asg (pe_op op_add (pe_ix ix_list (pv 0) pe_int (fun _ _ => rfl)) pe_int) (pg_sub (pv 0) pe_int set_list))
        (pss_cons (ps_asg pe_int (pg_sub (pv 0) pe_int set_list))
        (pss_one (ps_if (pt_cmpR op_ge (pv 2) (pe_op op_pow pe_int pe_int) (nomark _))
          (pss_one (ps_asg (pv 2) (pg_sub (pv 0) pe_int set_list)))
          (pss_one (ps_asg (pe_op op_mod (pe_op op_add (pe_op op_add (pe_op op_mul (pe_ix ix_list (pv 0) pe_int (fun _ _ => rfl)) pe_int) (pe_op op_mul (pe_op op_mod (pv 2) pe_int) pe_int)) pe_int) pe_int) (pg_sub (pv 0) pe_int set_list))))))))
        pss_nil)
      (pss_cons (ps_if (pt_cmpR op_ge (pe_ix ix_list (pv 0) pe_int (fun _ _ => rfl)) (pv 1) (nomark _))
        (pss_cons (ps_set (i := 3) scDraw.nd rfl (.inl rfl) (pe_op op_mod (pe_ix ix_list (pv 0) pe_int (fun _ _ => rfl)) (pv 1)))
        (pss_cons (ps_asg (pe_op op_fdivW (pe_ix ix_list (pv 0) pe_int (fun _ _ => rfl)) (pv 1)) (pg_sub (pv 0) pe_int set_list))
        (pss_one (ps_ret (pv 3))))) pss_nil)
      (pss_cons (ps_asg (pe_op op_add (pe_ix ix_list (pv 0) pe_int (fun _ _ => rfl)) pe_int) (pg_sub (pv 0) pe_int set_list))
      (pss_cons (ps_set (i := 4) scDraw.nd rfl (.inl rfl) (pe_ix ix_list (pv 0) pe_int (fun _ _ => rfl)))
      (pss_cons (ps_set (i := 4) scDraw.nd rfl (.inl rfl) (pe_op op_add (pe_op op_add (pe_op op_add (pe_op op_mul (pe_op op_mod (pe_op op_mul (pv 4) (pv 4)) pe_int) pe_int) (pe_op op_mul (pv 4) pe_int)) (pe_op op_mul pe_int (pe_ix ix_list (pv 0) pe_int (fun _ _ => rfl)))) pe_int))
      (pss_cons (ps_asg (pe_op op_mod (pv 4) pe_int) (pg_sub (pv 0) pe_int set_list))
      (pss_one (ps_ret (pe_op op_mod (pe_op op_add (pe_op op_fdiv (pe_ix ix_list (pv 0) pe_int (fun _ _ => rfl)) pe_int) (pe_op op_mul (pe_op op_mod (pe_ix ix_list (pv 0) pe_int (fun _ _ => rfl)) pe_int) pe_int)) (pv 1))))))))), ?_⟩
    have hca : c ≠ a := fun e => by
      rw [e, h1] at h2
      exact ref_ne (HO.lst.inj (Option.some.inj h2))
    refine ⟨fun σ' H' => ∃ (y2 : Option V) (i b m t : Int), σ' = [some (.ref a), some (.int n), y2, none, none] ∧ Kp a H H' ∧ H' a = some (.lst [.ref c, .int i, .int b, .int m, .int t]) ∧ 0 ≤ i ∧ 0 ≤ b ∧ 0 ≤ m ∧ m < 2147483647, ?_, ?_⟩
    · refine ⟨.ref a, rfl, a, _, 2, .int b, rfl, rfl, SqL.of h1, atI_nat (j := 2) rfl, .int n, rfl, b, n, rfl, rfl, _, rfl, ite2 (fun c1 => ?_) (fun c1 => ?_)⟩
      · refine ⟨.ref a, rfl, a, _, 1, .int i, rfl, rfl, SqL.of h1, atI_nat (j := 1) rfl, .ref a, rfl, a, _, 0, .ref c, rfl, rfl, SqL.of h1, atI_nat (j := 0) rfl, c, _, rfl, .inl (SqL.of h2), i, _, rfl, rfl, _, rfl, ite2 (fun c2 => ?_) (fun c2 => ?_)⟩
        · have hi : i < (ns.length : Nat) := by
            have := of_decide_eq_true c2
            rw [List.length_map] at this
            exact this
          obtain ⟨z, hz⟩ := atI_int i0 hi
          refine ⟨.ref a, rfl, a, _, 0, .ref c, rfl, rfl, SqL.of h1, atI_nat (j := 0) rfl, .ref a, rfl, a, _, 1, .int i, rfl, rfl, SqL.of h1, atI_nat (j := 1) rfl, c, _, i, .int z, rfl, rfl, SqL.of h2, hz, ?_⟩
          refine ⟨.ref a, rfl, a, _, 1, .int i, rfl, rfl, SqL.of h1, atI_nat (j := 1) rfl, i, 1, rfl, rfl, .ref a, rfl, a, _, 1, 1, rfl, rfl, h1, rfl, ?_⟩
          refine ⟨.ref a, rfl, a, _, 2, 2, rfl, rfl, upd_same, rfl, ?_⟩
          refine ⟨.int z, rfl, 10, 18, rfl, rfl, ⟨by decide, by decide, by decide⟩, z, _, rfl, rfl, _, rfl, ite2 (fun c3 => ?_) (fun c3 => ?_)⟩
          · have z0 : (10 : Int) ^ (18 : Int).toNat ≤ z := of_decide_eq_true c3
            have z1 : (0 : Int) ≤ z := Int.le_trans (by decide) z0
            refine ⟨.int z, rfl, .ref a, rfl, a, _, 2, 2, rfl, rfl, upd_same, rfl, ?_⟩
            exact ⟨_, i + 1, z, m, t, rfl, Kp.put.trans (Kp.put.trans Kp.put), upd_same, by omega, z1, m0, m1⟩
          · refine ⟨.ref a, rfl, a, _, 3, .int m, rfl, rfl, SqL.of upd_same, atI_nat (j := 3) rfl, m, 48271, rfl, rfl, .inr ⟨by decide, by decide⟩, .int z, rfl, z, 1000000007, rfl, rfl, (by show (0 : Int) < 1000000007; decide), _, 69621, rfl, rfl, .inr ⟨by decide, by decide⟩, _, _, rfl, rfl, _, 11, rfl, rfl, _, 2147483647, rfl, rfl, (by show (0 : Int) < 2147483647; decide), .ref a, rfl, a, _, 3, 3, rfl, rfl, upd_same, rfl, ?_⟩
            exact ⟨_, i + 1, 0, _, t, rfl, Kp.put.trans (Kp.put.trans Kp.put), upd_same, by omega, by decide, Int.emod_nonneg _ (by decide), Int.emod_lt_of_pos _ (by decide)⟩
        · exact ⟨none, i, b, m, t, rfl, Kp.refl _ _, h1, i0, b0, m0, m1⟩
      · exact ⟨none, i, b, m, t, rfl, Kp.refl _ _, h1, i0, b0, m0, m1⟩
    · rintro σ' H' ⟨y2, i, b, m, t, rfl, kp, g1, i0, b0, m0, m1⟩
      have g2 : H' c = some (.lst (ns.map V.int)) := kp _ _ hca h2
      refine ⟨.ref a, rfl, a, _, 2, .int b, rfl, rfl, SqL.of g1, atI_nat (j := 2) rfl, .int n, rfl, b, n, rfl, rfl, _, rfl, ite2 (fun c1 => ?_) (fun c1 => ?_)⟩
      · refine ⟨.ref a, rfl, a, _, 2, .int b, rfl, rfl, SqL.of g1, atI_nat (j := 2) rfl, .int n, rfl, b, n, rfl, rfl, (by show (0 : Int) < n; omega), ?_⟩
        refine ⟨.ref a, rfl, a, _, 2, .int b, rfl, rfl, SqL.of g1, atI_nat (j := 2) rfl, .int n, rfl, b, n, rfl, rfl, wide_div (b := 100) (by omega) (by omega) (by decide) (by decide), .ref a, rfl, a, _, 2, 2, rfl, rfl, g1, rfl, ?_⟩
        refine ⟨_, rfl, q _ _ (Int.emod_nonneg _ (by omega)) (Int.emod_lt_of_pos _ (by omega)) (kp.trans Kp.put) ⟨ns, i, _, m, t, upd_same, ?_, i0, Int.ediv_nonneg b0 (by omega), m0, m1⟩⟩
        rw [upd_ne hca]
        exact g2
      · refine ⟨.ref a, rfl, a, _, 4, .int t, rfl, rfl, SqL.of g1, atI_nat (j := 4) rfl, t, 1, rfl, rfl, .ref a, rfl, a, _, 4, 4, rfl, rfl, g1, rfl, ?_⟩
        refine ⟨.ref a, rfl, a, _, 3, .int m, rfl, rfl, SqL.of upd_same, atI_nat (j := 3) rfl, ?_⟩
        refine ⟨.int m, rfl, .int m, rfl, m, m, rfl, rfl, .inl ⟨by omega, by omega⟩, _, 2147483587, rfl, rfl, (by show (0 : Int) < 2147483587; decide), _, 16807, rfl, rfl, .inr ⟨by decide, by decide⟩, .int m, rfl, m, 48271, rfl, rfl, .inr ⟨by decide, by decide⟩, _, _, rfl, rfl, .ref a, rfl, a, _, 4, .int (t + 1), rfl, rfl, SqL.of upd_same, atI_nat (j := 4) rfl, 97, t + 1, rfl, rfl, .inl ⟨by decide, by decide⟩, _, _, rfl, rfl, _, 12345, rfl, rfl, ?_⟩
        refine ⟨_, rfl, _, 2147483647, rfl, rfl, (by show (0 : Int) < 2147483647; decide), .ref a, rfl, a, _, 3, 3, rfl, rfl, upd_same, rfl, ?_⟩
        refine ⟨.ref a, rfl, a, _, 3, _, rfl, rfl, SqL.of upd_same, atI_nat (j := 3) rfl, _, 64, rfl, rfl, ⟨by decide, by decide⟩, .ref a, rfl, a, _, 3, _, rfl, rfl, SqL.of upd_same, atI_nat (j := 3) rfl, _, 4093, rfl, rfl, (by show (0 : Int) < 4093; decide), _, 31, rfl, rfl, .inr ⟨by decide, by decide⟩, _, _, rfl, rfl, .int n, rfl, _, n, rfl, rfl, (by show (0 : Int) < n; omega), ?_⟩
        refine q _ _ (Int.emod_nonneg _ (by omega)) (Int.emod_lt_of_pos _ (by omega)) (kp.trans (Kp.put.trans Kp.put)) ⟨ns, i, b, _, t + 1, upd_same, ?_, i0, b0, Int.emod_nonneg _ (by decide), Int.emod_lt_of_pos _ (by decide)⟩
        rw [upd_ne hca, upd_ne hca]
        exact g2
end
end HL

namespace HL
open PySem PySem.Spec PyProof.Rows L2
open C8 (pss_cut)
/-- a def of the module as its callers take it -/
structure Cal (P : Program) (w : World) (K : PySem.W.Frag) (mg : Str → Option Value) (base : Heap) (CX : CXT) (j : Nat) (x : Str) (ps : List Str) (sp : Sp) : Prop where
  ex : ∃ f fd, FnOk P w K mg base CX j f fd ps sp ∧ mg x = some (.ref f) ∧ PySem.W.keepIn K (.ref f) = true ∧ Binds K fd ps []
section
variable {P : Program} {w : World} {K : PySem.W.Frag} {mg : Str → Option Value} {base : Heap}
/-! ### pick -/
theorem atI_mem {xs : List V} {i : Int} (h0 : 0 ≤ i) (h1 : i < (xs.length : Nat)) : ∃ z, atI xs i = some z ∧ z ∈ xs ∧ xs[i.toNat]? = some z := by
  have hl : i.toNat < xs.length := by omega
  have e : ((i.toNat : Nat) : Int) = i := by omega
  exact ⟨xs[i.toNat], (congrArg (atI xs) e.symm).trans (atI_nat (j := i.toNat) (List.getElem?_eq_getElem hl)), List.getElem_mem hl, List.getElem?_eq_getElem hl⟩
/-! ### same -/
def leafV : V → Bool
  | .non => true
  | .bl _ => true
  | .int _ => true
  | .str _ => true
  | _ => false
/-- alike at depth d: leaves, or lists or tuples of such -/
def Eqd (H : Hp) : Nat → V → V → Prop
  | 0, x, y => x = y ∧ leafV x = true
  | d + 1, x, y => (x = y ∧ leafV x = true) ∨ ∃ (a b : Addr) (xs ys : List V), x = .ref a ∧ y = .ref b ∧ ((H a = some (.lst xs) ∧ H b = some (.lst ys)) ∨ (H a = some (.tup xs) ∧ H b = some (.tup ys))) ∧
      xs.length = ys.length ∧ xs.length ≤ 1000 ∧ ∀ (i : Nat) (x y : V), xs[i]? = some x → ys[i]? = some y → Eqd H d x y
theorem Eqd.same {H H' : Hp} (s : Same H H') : ∀ {d : Nat} {x y : V}, Eqd H d x y → Eqd H' d x y
  | 0, _, _, h => h
  | d + 1, _, _, .inl h => .inl h
  | d + 1, _, _, .inr ⟨a, b, xs, ys, ex, ey, hs, hl, hz, ih⟩ => .inr ⟨a, b, xs, ys, ex, ey, hs.imp (fun q => ⟨s _ _ q.1, s _ _ q.2⟩) (fun q => ⟨s _ _ q.1, s _ _ q.2⟩), hl, hz, fun i x y h1 h2 => Eqd.same s (ih i x y h1 h2)⟩
def spSame (d : Nat) : Sp := fun vs H Q _ => ∃ x y, vs = [x, y] ∧ Eqd H d x y ∧ ∀ H', Same H H' → Q (.bl true) H'
theorem scSame : FnScope ["_law_found", "_law_due", "_law_at"] ["_law_found", "_law_due"] (defScope sSame) := ⟨rfl, rfl, rfl, by decide +kernel, rfl, by decide +kernel, by decide +kernel⟩
structure Bl (mg : Str → Option Value) : Prop where
  len : mg "len" = none
  list : mg "list" = none
  tuple : mg "tuple" = none
  dict : mg "dict" = none
  str : mg "str" = none
  int : mg "int" = none
  bool : mg "bool" = none
  isinstance : mg "isinstance" = none
  all : mg "all" = none
  range : mg "range" = none
  sum : mg "sum" = none
  min : mg "min" = none
  max : mg "max" = none
  enumerate : mg "enumerate" = none
theorem ok_same_leaf {f : Addr} {fd : FuncData} {k : Nat} (F : Fun K "_law_same" "_law_same" sSame f fd) (B : Bl mg) : FnOk P w K mg base CX0 (k + 1) f fd ["_law_found", "_law_due"] (spSame 0) := by
  refine F.ok scSame (fun vs H Q E h => ?_) (fun cdv A outer s H vs Q E hr h => ?_)
  · obtain ⟨x, y, rfl, _⟩ := h
    rfl
  · obtain ⟨x, y, rfl, ⟨rfl, hlf⟩, q⟩ := h
    refine ⟨_, pss_cons (ps_if (pt_cmpR op_isN (pv 1) pe_non (nomark _)) (pss_one (ps_ret (pe_cmp (pc_isN (pv 0)) rfl))) pss_nil)
      (pss_cons (ps_if (pt_val (pe_callB call_isi (by rfl) B.isinstance (by decide +kernel) (pa_cons (pv 1) (pa_cons (pe_bltn (v := .ty "bool") (by rfl) B.bool (by decide +kernel) rfl) pa_nil))))
          (pss_one (ps_ret (pe_and (pe_callB call_isi (by rfl) B.isinstance (by decide +kernel) (pa_cons (pv 0) (pa_cons (pe_bltn (v := .ty "bool") (by rfl) B.bool (by decide +kernel) rfl) pa_nil))) (pe_one (pe_cmpR op_eq (pv 0) (pv 1) (nomark _)))))) pss_nil)
      (pss_cons (ps_if (pt_val (pe_callB call_isi (by rfl) B.isinstance (by decide +kernel) (pa_cons (pv 1) (pa_cons (pe_bltn (v := .ty "int") (by rfl) B.int (by decide +kernel) rfl) pa_nil))))
          (pss_one (ps_ret (pe_and (pe_callB call_isi (by rfl) B.isinstance (by decide +kernel) (pa_cons (pv 0) (pa_cons (pe_bltn (v := .ty "int") (by rfl) B.int (by decide +kernel) rfl) pa_nil)))
            (pe_and (pe_not (pe_callB call_isi (by rfl) B.isinstance (by decide +kernel) (pa_cons (pv 0) (pa_cons (pe_bltn (v := .ty "bool") (by rfl) B.bool (by decide +kernel) rfl) pa_nil)))) (pe_one (pe_cmpR op_eq (pv 0) (pv 1) (nomark _))))))) pss_nil)
      (pss_cons (ps_if (pt_val (pe_callB call_isi (by rfl) B.isinstance (by decide +kernel) (pa_cons (pv 1) (pa_cons (pe_bltn (v := .ty "str") (by rfl) B.str (by decide +kernel) rfl) pa_nil))))
          (pss_one (ps_ret (pe_and (pe_callB call_isi (by rfl) B.isinstance (by decide +kernel) (pa_cons (pv 0) (pa_cons (pe_bltn (v := .ty "str") (by rfl) B.str (by decide +kernel) rfl) pa_nil))) (pe_one (pe_cmpR op_eq (pv 0) (pv 1) (nomark _)))))) pss_nil)
      pss_never))), ?_⟩
    cases x with
    | non => exact ⟨_, rfl, rfl, _, rfl, iteT ⟨_, rfl, q _ (Same.refl _)⟩⟩
    | bl b =>
      refine ⟨_, rfl, rfl, _, rfl, iteF ?_⟩
      refine ⟨_, rfl, _, _, _, _, true, rfl, .ty "bool", .base (.bl b), kit_ty (by decide +kernel), _, rfl, iteT ?_⟩
      refine ⟨_, rfl, _, _, _, _, true, rfl, .ty "bool", .base (.bl b), kit_ty (by decide +kernel), _, rfl, iteT ?_⟩
      refine ⟨_, rfl, _, rfl, rfl, ?_⟩
      rw [decide_eq_true rfl]
      exact q _ (Same.refl _)
    | int i =>
      refine ⟨_, rfl, rfl, _, rfl, iteF ?_⟩
      refine ⟨_, rfl, _, _, _, _, false, rfl, .ty "bool", .base (.int i), kit_ty (by decide +kernel), _, rfl, iteF ?_⟩
      refine ⟨_, rfl, _, _, _, _, true, rfl, .ty "int", .base (.int i), kit_ty (by decide +kernel), _, rfl, iteT ?_⟩
      refine ⟨_, rfl, _, _, _, _, true, rfl, .ty "int", .base (.int i), kit_ty (by decide +kernel), _, rfl, iteT ?_⟩
      refine ⟨_, rfl, _, _, _, _, false, rfl, .ty "bool", .base (.int i), kit_ty (by decide +kernel), _, rfl, _, rfl, iteT ?_⟩
      refine ⟨_, rfl, _, rfl, rfl, ?_⟩
      rw [decide_eq_true rfl]
      exact q _ (Same.refl _)
    | str z =>
      refine ⟨_, rfl, rfl, _, rfl, iteF ?_⟩
      refine ⟨_, rfl, _, _, _, _, false, rfl, .ty "bool", .base (.str z), kit_ty (by decide +kernel), _, rfl, iteF ?_⟩
      refine ⟨_, rfl, _, _, _, _, false, rfl, .ty "int", .base (.str z), kit_ty (by decide +kernel), _, rfl, iteF ?_⟩
      refine ⟨_, rfl, _, _, _, _, true, rfl, .ty "str", .base (.str z), kit_ty (by decide +kernel), _, rfl, iteT ?_⟩
      refine ⟨_, rfl, _, _, _, _, true, rfl, .ty "str", .base (.str z), kit_ty (by decide +kernel), _, rfl, iteT ?_⟩
      refine ⟨_, rfl, _, rfl, rfl, ?_⟩
      rw [decide_eq_true rfl]
      exact q _ (Same.refl _)
    | byt b => cases hlf
    | flt b => cases hlf
    | ref a => cases hlf
    | ty n => cases hlf

theorem leaf_or {H : Hp} {d : Nat} {x y : V} (h : Eqd H d x y) (hx : leafV x = true) : x = y := by
  cases d with
  | zero => exact h.1
  | succ d =>
    rcases h with h | ⟨a, b, xs, ys, rfl, _⟩
    · exact h.1
    · cases hx
/-- what isinstance tells of a list or tuple that is tracked -/
theorem seq_ty {K : PySem.W.Frag} {H : Hp} {a b : Addr} {xs ys : List V} (h : (H a = some (.lst xs) ∧ H b = some (.lst ys)) ∨ (H a = some (.tup xs) ∧ H b = some (.tup ys))) :
    ∃ (T : String) (bt bl : Bool), TyX K H (.ref a) (.type T) ∧ TyX K H (.ref b) (.type T) ∧ kitB T "bool" = some false ∧ kitB T "int" = some false ∧ kitB T "str" = some false ∧ kitB T "dict" = some false ∧ kitB T "tuple" = some bt ∧ kitB T "list" = some bl := by
  rcases h with ⟨h1, h2⟩ | ⟨h1, h2⟩
  · exact ⟨"list", false, true, .base (.lst h1), .base (.lst h2), by decide +kernel, by decide +kernel, by decide +kernel, by decide +kernel, by decide +kernel, by decide +kernel⟩
  · exact ⟨"tuple", true, false, .base (.tup h1), .base (.tup h2), by decide +kernel, by decide +kernel, by decide +kernel, by decide +kernel, by decide +kernel, by decide +kernel⟩
theorem fnEither {CX : CXT} {k : Nat} {f : Addr} {fd : FuncData} {ps : List Str} {sp sp1 sp2 : Sp} (F1 : FnOk P w K mg base CX k f fd ps sp1) (F2 : FnOk P w K mg base CX k f fd ps sp2) (h : ∀ vs H Q E, sp vs H Q E → sp1 vs H Q E ∨ sp2 vs H Q E) : FnOk P w K mg base CX k f fd ps sp where
  len := fun vs H Q E q => (h vs H Q E q).elim (F1.len vs H Q E) (F2.len vs H Q E)
  run := fun A outer s H args us vs Q E hr e0 hb r q => (h vs H Q E q).elim (F1.run A outer s H args us vs Q E hr e0 hb r) (F2.run A outer s H args us vs Q E hr e0 hb r)
theorem yes {σ : L2.St} {H : Hp} {Q : Bool → Hp → Prop} (h : Q true H) : tYes σ H Q := h
theorem bl_self (b : Bool) : (!decide (V.bl b = V.bl b)) = false := by rw [decide_eq_true rfl]; rfl
theorem ok_same_step {f : Addr} {fd : FuncData} {d : Nat} (F : Fun K "_law_same" "_law_same" sSame f fd) (B : Bl mg) (gS : mg "_law_same" = some (.ref f)) (kS : PySem.W.keepIn K (.ref f) = true) (bS : Binds K fd ["_law_found", "_law_due"] [])
    (G : FnOk P w K mg base CX0 (d + 1) f fd ["_law_found", "_law_due"] (spSame d)) : FnOk P w K mg base CX0 (d + 2) f fd ["_law_found", "_law_due"] (spSame (d + 1)) := by
  have key : FnOk P w K mg base CX0 (d + 2) f fd ["_law_found", "_law_due"] (fun vs H Q _ => ∃ (a b : Addr) (xs ys : List V), vs = [.ref a, .ref b] ∧ ((H a = some (.lst xs) ∧ H b = some (.lst ys)) ∨ (H a = some (.tup xs) ∧ H b = some (.tup ys))) ∧
      xs.length = ys.length ∧ xs.length ≤ 1000 ∧ (∀ (i : Nat) (x y : V), xs[i]? = some x → ys[i]? = some y → Eqd H d x y) ∧ ∀ H', Same H H' → Q (.bl true) H') := by
    refine F.ok scSame (fun vs H Q E h => ?_) (fun cdv A outer s H vs Q E hr h => ?_)
    · obtain ⟨a, b, xs, ys, rfl, _⟩ := h
      rfl
    · obtain ⟨a, b, xs, ys, rfl, hs, hl, hz, hE, q⟩ := h
      refine ⟨_, pss_cons (ps_if (pt_cmpR op_isN (pv 1) pe_non (nomark _)) pss_never pss_nil)
        (pss_cons (ps_if (pt_val (pe_callB call_isi (by rfl) B.isinstance (by decide +kernel) (pa_cons (pv 1) (pa_cons (pe_bltn (v := .ty "bool") (by rfl) B.bool (by decide +kernel) rfl) pa_nil)))) pss_never pss_nil)
        (pss_cons (ps_if (pt_val (pe_callB call_isi (by rfl) B.isinstance (by decide +kernel) (pa_cons (pv 1) (pa_cons (pe_bltn (v := .ty "int") (by rfl) B.int (by decide +kernel) rfl) pa_nil)))) pss_never pss_nil)
        (pss_cons (ps_if (pt_val (pe_callB call_isi (by rfl) B.isinstance (by decide +kernel) (pa_cons (pv 1) (pa_cons (pe_bltn (v := .ty "str") (by rfl) B.str (by decide +kernel) rfl) pa_nil)))) pss_never pss_nil)
        (pss_cons (ps_if (pt_val (pe_callB call_isi (by rfl) B.isinstance (by decide +kernel) (pa_cons (pv 1) (pa_cons (pe_bltn (v := .ty "dict") (by rfl) B.dict (by decide +kernel) rfl) pa_nil)))) pss_never pss_nil)
        (pss_cons (ps_if (PW.pt (pw_or (pt_cmpR op_ne (pe_callB call_isi (by rfl) B.isinstance (by decide +kernel) (pa_cons (pv 1) (pa_cons (pe_bltn (v := .ty "tuple") (by rfl) B.tuple (by decide +kernel) rfl) pa_nil)))
              (pe_callB call_isi (by rfl) B.isinstance (by decide +kernel) (pa_cons (pv 0) (pa_cons (pe_bltn (v := .ty "tuple") (by rfl) B.tuple (by decide +kernel) rfl) pa_nil))) (nomark _))
            (pw_or1 (pt_cmpR op_ne (pe_callB call_isi (by rfl) B.isinstance (by decide +kernel) (pa_cons (pv 1) (pa_cons (pe_bltn (v := .ty "list") (by rfl) B.list (by decide +kernel) rfl) pa_nil)))
              (pe_callB call_isi (by rfl) B.isinstance (by decide +kernel) (pa_cons (pv 0) (pa_cons (pe_bltn (v := .ty "list") (by rfl) B.list (by decide +kernel) rfl) pa_nil))) (nomark _))))) pss_never pss_nil)
        (pss_cons (ps_if (pt_cmpR op_ne (pe_callB call_len_seq (by rfl) B.len PySem.boot_len (pa_cons (pv 0) pa_nil)) (pe_callB call_len_seq (by rfl) B.len PySem.boot_len (pa_cons (pv 1) pa_nil)) (nomark _)) pss_never pss_nil)
        (pss_one (ps_ret (pe_callB (cr_all rfl) (by rfl) B.all (by decide +kernel) (pa_cons
          (pe_lc (own := [("_law_at", 2)]) (g := gName 2) (tt := tYes) rfl scSame.nd (pi_range1 (by rfl) B.range (pa_cons (pe_callB call_len_seq (by rfl) B.len PySem.boot_len (pa_cons (pv 1) pa_nil)) pa_nil))
            (blkOk_by (own := [("_law_at", 2)]) (N := ["_law_found", "_law_due", "_law_at"]) (sc := defScope sSame) (by decide +kernel)) (fun _ _ _ _ _ => pg_name (i := 2) scSame.nd rfl (Or.inl rfl)) (fun _ _ _ _ _ => pts_nil)
            (fun _ _ _ _ _ => pe_call G hr (by rfl) gS kS bS .nil pass0 (pa_cons (pe_ix (r := rIx K) ix_seq (pv 0) (pv 2) (fun _ _ => rfl)) (pa_cons (pe_ix (r := rIx K) ix_seq (pv 1) (pv 2) (fun _ _ => rfl)) pa_nil)))) pa_nil)))))))))), ?_⟩
      obtain ⟨T, bt, bl, ta, tb, k1, k2, k3, k4, k5, k6⟩ := seq_ty (K := K) hs
      refine ⟨.ref b, rfl, rfl, _, rfl, iteF ?_⟩
      refine ⟨.ref b, rfl, _, _, _, _, false, rfl, .ty "bool", tb, kit_ty k1, _, rfl, iteF ?_⟩
      refine ⟨.ref b, rfl, _, _, _, _, false, rfl, .ty "int", tb, kit_ty k2, _, rfl, iteF ?_⟩
      refine ⟨.ref b, rfl, _, _, _, _, false, rfl, .ty "str", tb, kit_ty k3, _, rfl, iteF ?_⟩
      refine ⟨.ref b, rfl, _, _, _, _, false, rfl, .ty "dict", tb, kit_ty k4, _, rfl, iteF ?_⟩
      refine ⟨.ref b, rfl, _, _, _, _, bt, rfl, .ty "tuple", tb, kit_ty k5, .ref a, rfl, _, _, _, _, bt, rfl, .ty "tuple", ta, kit_ty k5, rfl, _, rfl, ?_⟩
      rw [bl_self]
      refine iteF ?_
      refine ⟨.ref b, rfl, _, _, _, _, bl, rfl, .ty "list", tb, kit_ty k6, .ref a, rfl, _, _, _, _, bl, rfl, .ty "list", ta, kit_ty k6, rfl, _, rfl, ?_⟩
      rw [bl_self]
      refine iteF ?_
      have sA : SqL K H a xs ∨ SqT K H a xs := hs.imp (fun q => SqL.of q.1) (fun q => SqT.of q.1)
      have sB : SqL K H b ys ∨ SqT K H b ys := hs.imp (fun q => SqL.of q.2) (fun q => SqT.of q.2)
      refine ⟨.ref a, rfl, a, xs, rfl, sA, .ref b, rfl, b, ys, rfl, sB, rfl, _, rfl, ?_⟩
      rw [hl, decide_eq_true rfl]
      refine iteF ?_
      refine ⟨.ref b, rfl, b, ys, rfl, sB, (ys.length : Nat), rfl, by omega, by omega, fun D nD => ?_⟩
      refine lc_range (lo := 0) (n := ((ys.length : Nat) : Int).toNat) (fun i H' => Same H H' ∧ H' D = some (.lst ((List.replicate i true).map V.bl))) ⟨same_new nD, upd_same⟩ (fun i H' hi ⟨sm, hD⟩ => ?_) (fun H' ⟨sm, hD⟩ => ?_)
      · have hi' : i < ys.length := by omega
        have hx : xs[i]? = some (xs[i]'(by omega)) := List.getElem?_eq_getElem (by omega)
        have hy : ys[i]? = some ys[i] := List.getElem?_eq_getElem hi'
        have ez : (0 : Int) + (i : Nat) = ((i : Nat) : Int) := by omega
        rw [ez]
        have sA' : rIx K (.ref a) (.int ((i : Nat) : Int)) H' = rIx K (.ref a) (.int ((i : Nat) : Int)) H' := rfl
        have rdA : ∀ Q : VK, Q (xs[i]'(by omega)) H' → rIx K (.ref a) (.int ((i : Nat) : Int)) H' Q := fun Q hQ => by
          rcases hs with ⟨h1, _⟩ | ⟨h1, _⟩
          · exact .inl ⟨a, xs, _, _, rfl, rfl, SqL.of (sm _ _ h1), atI_nat hx, hQ⟩
          · exact .inr (.inl ⟨a, xs, _, _, rfl, rfl, SqT.of (sm _ _ h1), atI_nat hx, hQ⟩)
        have rdB : ∀ Q : VK, Q ys[i] H' → rIx K (.ref b) (.int ((i : Nat) : Int)) H' Q := fun Q hQ => by
          rcases hs with ⟨_, h1⟩ | ⟨_, h1⟩
          · exact .inl ⟨b, ys, _, _, rfl, rfl, SqL.of (sm _ _ h1), atI_nat hy, hQ⟩
          · exact .inr (.inl ⟨b, ys, _, _, rfl, rfl, SqT.of (sm _ _ h1), atI_nat hy, hQ⟩)
        refine ⟨rfl, yes (iteT ?_)⟩
        refine ⟨.ref a, rfl, .int ((i : Nat) : Int), rfl, rdA _ ⟨.ref b, rfl, .int ((i : Nat) : Int), rfl, rdB _ ?_⟩⟩
        refine ⟨_, _, rfl, (hE i _ _ hx hy).same sm, fun H2 s2 => ⟨_, s2 _ _ hD, ?_, ?_, ?_⟩⟩
        · rw [List.length_map, List.length_replicate]
          exact small1000 (by omega)
        · exact fun c o e => by
            have nc : c ≠ D := fun z => by rw [z, nD] at e; cases e
            rw [upd_ne nc]
            exact s2 _ _ (sm _ _ e)
        · rw [upd_same, List.replicate_succ', List.map_append]
          rfl
      · refine ⟨D, _, rfl, SqL.of hD, ?_⟩
        have e : (List.replicate ((ys.length : Nat) : Int).toNat true).all id = true := by
          rw [List.all_eq_true]
          intro x hx
          exact (List.eq_of_mem_replicate hx)
        rw [e]
        exact q _ sm
  have leaf : FnOk P w K mg base CX0 (d + 2) f fd ["_law_found", "_law_due"] (spSame 0) := ok_same_leaf F B
  exact fnEither key leaf fun vs H Q E ⟨x, y, ev, h, q⟩ => by
    rcases h with h | ⟨a, b, xs, ys, rfl, rfl, hs, hl, hz, hE⟩
    · exact .inr ⟨x, y, ev, h, q⟩
    · exact .inl ⟨a, b, xs, ys, ev, hs, hl, hz, hE, q⟩
theorem ok_same {f : Addr} {fd : FuncData} (F : Fun K "_law_same" "_law_same" sSame f fd) (B : Bl mg) (gS : mg "_law_same" = some (.ref f)) (bS : Binds K fd ["_law_found", "_law_due"] []) :
    ∀ d : Nat, FnOk P w K mg base CX0 (d + 1) f fd ["_law_found", "_law_due"] (spSame d)
  | 0 => ok_same_leaf F B
  | d + 1 => ok_same_step F B gS F.kp bS (ok_same F B gS bS d)
end
end HL

namespace HL
open PySem PySem.Spec PyProof.Rows L2
open C8 (pss_cut)
/-! ### rows and lots in the heap -/
def Rows (H : Hp) : List Addr → List (List Int) → Prop
  | [], [] => True
  | a :: as, r :: rs => H a = some (.tup (r.map V.int)) ∧ Rows H as rs
  | _, _ => False
theorem Rows.len {H : Hp} : ∀ {as : List Addr} {ll : List (List Int)}, Rows H as ll → as.length = ll.length
  | [], [], _ => rfl
  | a :: as, r :: rs, h => by rw [List.length_cons, List.length_cons, Rows.len h.2]
  | [], _ :: _, h => h.elim
  | _ :: _, [], h => h.elim
theorem Rows.mono {H H' : Hp} : ∀ {as : List Addr} {ll : List (List Int)}, Rows H as ll → (∀ a xs, H a = some (.tup xs) → H' a = some (.tup xs)) → Rows H' as ll
  | [], [], _, _ => True.intro
  | a :: as, r :: rs, h, k => ⟨k _ _ h.1, Rows.mono h.2 k⟩
  | [], _ :: _, h, _ => h.elim
  | _ :: _, [], h, _ => h.elim
theorem Rows.same {H H' : Hp} {as : List Addr} {ll : List (List Int)} (h : Rows H as ll) (s : Same H H') : Rows H' as ll := h.mono fun a xs e => s _ _ e
theorem Rows.kp {H H' : Hp} {f c : Addr} {as : List Addr} {ll : List (List Int)} (h : Rows H as ll) (F : FeedAt c H f) (k : Kp f H H') : Rows H' as ll := h.mono fun a xs e => k _ _ (F.tup e) e
theorem Rows.app {H : Hp} : ∀ {as bs : List Addr} {ll mm : List (List Int)}, Rows H as ll → Rows H bs mm → Rows H (as ++ bs) (ll ++ mm)
  | [], _, [], _, _, h => h
  | a :: as, bs, r :: rs, mm, h, k => ⟨h.1, Rows.app h.2 k⟩
  | [], _, _ :: _, _, h, _ => h.elim
  | _ :: _, _, [], _, h, _ => h.elim
theorem Rows.take {H : Hp} : ∀ {as : List Addr} {ll : List (List Int)} (n : Nat), Rows H as ll → Rows H (as.take n) (ll.take n)
  | [], [], n, _ => by rw [List.take_nil, List.take_nil]; exact True.intro
  | _ :: _, _ :: _, 0, _ => True.intro
  | a :: as, r :: rs, n + 1, h => ⟨h.1, Rows.take n h.2⟩
  | [], _ :: _, _, h => h.elim
  | _ :: _, [], _, h => h.elim
theorem Rows.drop {H : Hp} : ∀ {as : List Addr} {ll : List (List Int)} (n : Nat), Rows H as ll → Rows H (as.drop n) (ll.drop n)
  | [], [], n, _ => by rw [List.drop_nil, List.drop_nil]; exact True.intro
  | _ :: _, _ :: _, 0, h => h
  | a :: as, r :: rs, n + 1, h => Rows.drop n h.2
  | [], _ :: _, _, h => h.elim
  | _ :: _, [], _, h => h.elim
theorem Rows.at {H : Hp} : ∀ {as : List Addr} {ll : List (List Int)} {i : Nat} {a : Addr}, Rows H as ll → as[i]? = some a → ∃ r, ll[i]? = some r ∧ H a = some (.tup (r.map V.int))
  | [], [], _, _, _, e => by simp at e
  | b :: as, r :: rs, 0, a, h, e => by
    have e' : b = a := Option.some.inj e
    subst e'
    exact ⟨r, rfl, h.1⟩
  | b :: as, r :: rs, i + 1, a, h, e => Rows.at (i := i) h.2 e
  | [], _ :: _, _, _, h, _ => h.elim
  | _ :: _, [], _, _, h, _ => h.elim
/-- a lot in the heap -/
def LotAt (H : Hp) (p : Addr) (ll : List (List Int)) : Prop := ∃ as : List Addr, H p = some (.tup (as.map V.ref)) ∧ Rows H as ll
theorem LotAt.same {H H' : Hp} {p : Addr} {ll : List (List Int)} (h : LotAt H p ll) (s : Same H H') : LotAt H' p ll := by
  obtain ⟨as, h1, h2⟩ := h
  exact ⟨as, s _ _ h1, h2.same s⟩
theorem LotAt.kp {H H' : Hp} {f c p : Addr} {ll : List (List Int)} (h : LotAt H p ll) (F : FeedAt c H f) (k : Kp f H H') : LotAt H' p ll := by
  obtain ⟨as, h1, h2⟩ := h
  exact ⟨as, k _ _ (F.tup h1) h1, h2.kp F k⟩
/-- a kind as it should be, of g amounts to m -/
def GoodRow (g m : Int) (r : List Int) : Prop := r.length = g.toNat ∧ (∀ n ∈ r, 0 ≤ n ∧ n ≤ m) ∧ ∃ n ∈ r, 0 < n
theorem pos_of_sum : ∀ {r : List Int}, (∀ n ∈ r, 0 ≤ n) → r.sum ≠ 0 → ∃ n ∈ r, 0 < n
  | [], _, h => absurd rfl h
  | x :: r, h0, h => by
    by_cases hx : 0 < x
    · exact ⟨x, List.mem_cons_self, hx⟩
    · have e : x = 0 := by
        have := h0 x List.mem_cons_self
        omega
      rw [List.sum_cons, e, Int.zero_add] at h
      obtain ⟨n, hn, hp⟩ := pos_of_sum (fun n hn => h0 n (List.mem_cons_of_mem _ hn)) h
      exact ⟨n, List.mem_cons_of_mem _ hn, hp⟩
/-! ### hold -/
theorem scHold : FnScope ["_law_feed_here", "_law_goods", "_law_most", "_law_hold_here", "_law_good"] ["_law_feed_here", "_law_goods", "_law_most"] (defScope sHold) := ⟨rfl, rfl, rfl, by decide +kernel, rfl, by decide +kernel, by decide +kernel⟩
theorem scLot : FnScope ["_law_feed_here", "_law_goods", "_law_kinds", "_law_most", "_law_kind"] ["_law_feed_here", "_law_goods", "_law_kinds", "_law_most"] (defScope sLot) := ⟨rfl, rfl, rfl, by decide +kernel, rfl, by decide +kernel, by decide +kernel⟩
theorem scNoughts : FnScope ["_law_many"] ["_law_many"] (defScope sNoughts) := ⟨rfl, rfl, rfl, by decide +kernel, rfl, by decide +kernel, by decide +kernel⟩
section
variable {P : Program} {w : World} {K : PySem.W.Frag} {mg : Str → Option Value} {base : Heap}
def spHold : Sp := fun vs H Q _ => ∃ (f c : Addr) (g m : Int), vs = [.ref f, .int g, .int m] ∧ FeedAt c H f ∧ 1 ≤ g ∧ g ≤ 100 ∧ 1 ≤ m ∧ m ≤ 100 ∧
  ∀ H' p ns, Kp f H H' → FeedAt c H' f → H p = none → H' p = some (.tup (ns.map V.int)) → GoodRow g m ns → Q (.ref p) H'
theorem ok_hold {f : Addr} {fd : FuncData} (F : Fun K "_law_hold" "_law_hold" sHold f fd) (B : Bl mg) (CD : Cal P w K mg base CX0 1 "_law_draw" ["_law_feed_here", "_law_many"] spDraw) :
    FnOk P w K mg base CX0 2 f fd ["_law_feed_here", "_law_goods", "_law_most"] spHold := by
  obtain ⟨fD, fdD, GD, gD, kD, bD⟩ := CD.ex
  refine F.ok scHold (fun vs H Q E h => ?_) (fun cdv A outer s H vs Q E hr h => ?_)
  · obtain ⟨a, c, g, m, rfl, _⟩ := h
    rfl
  · obtain ⟨a, c, g, m, rfl, Fd, g1, g2, m1, m2, q⟩ := h
    refine ⟨_, pss_cons (ps_setLc (i := 3) (own := [("_law_good", 4)]) (g := gName 4) (tt := tYes) rfl scHold.nd rfl rfl (sw_true rfl rfl rfl (by decide +kernel)) (pi_range1 (by rfl) B.range (pa_cons (pv 1) pa_nil))
          (blkOk_by (own := [("_law_good", 4)]) (N := ["_law_feed_here", "_law_goods", "_law_most", "_law_hold_here", "_law_good"]) (sc := defScope sHold) (by decide +kernel)) (fun _ _ _ _ _ => pg_name (i := 4) scHold.nd rfl (Or.inl rfl)) (fun _ _ _ _ _ => pts_nil)
          (fun _ _ _ _ _ => pe_ifExp (pt_cmpR op_gt (pe_call GD hr (by rfl) gD kD bD .nil pass0 (pa_cons (pv 0) (pa_cons pe_int pa_nil))) pe_int (nomark _)) (pe_call GD hr (by rfl) gD kD bD .nil pass0 (pa_cons (pv 0) (pa_cons (pe_op op_add (pv 2) pe_int) pa_nil))) pe_int))
      (pss_cut (ps_if (pt_cmpR op_eq (pe_callB (cr_sum rfl) (by rfl) B.sum (by decide +kernel) (pa_cons (pv 3) pa_nil)) pe_int (nomark _))
          (pss_one (ps_asg (pe_op op_add pe_int (pe_call GD hr (by rfl) gD kD bD .nil pass0 (pa_cons (pv 0) (pa_cons (pv 2) pa_nil)))) (pg_sub (pv 3) (pe_call GD hr (by rfl) gD kD bD .nil pass0 (pa_cons (pv 0) (pa_cons (pv 1) pa_nil))) set_list))) pss_nil)
        (pss_one (ps_ret (pe_callTy call_tuple_of (by rfl) B.tuple (by decide +kernel) (pa_cons (pv 3) pa_nil))))), ?_⟩
    refine ⟨.int g, rfl, g, rfl, by omega, by omega, fun D nD => ?_⟩
    have nDf : D ≠ a := Fd.ne nD
    have nDc : D ≠ c := Fd.neC nD
    refine lc_range (lo := 0) (n := g.toNat) (fun i H' => Kp a H H' ∧ FeedAt c H' a ∧ ∃ ns : List Int, H' D = some (.lst (ns.map V.int)) ∧ ns.length = i ∧ ∀ n ∈ ns, 0 ≤ n ∧ n ≤ m)
      ⟨Kp.new nD, Fd.new nD, [], upd_same, rfl, fun n hn => by cases hn⟩ (fun i H' hi ⟨kp, F', ns, hD, hl, hb⟩ => ?_) (fun H' ⟨kp, F', ns, hD, hl, hb⟩ => ?_)
    · refine ⟨rfl, yes (iteT ?_)⟩
      have more : ∀ (H2 : Hp) (d : Int), Kp a H' H2 → FeedAt c H2 a → 0 ≤ d → d ≤ m → ∃ acc, H2 D = some (.lst acc) ∧ acc.length < sizeLine ∧ Kp a H (upd H2 D (.lst (acc ++ [.int d]))) ∧ FeedAt c (upd H2 D (.lst (acc ++ [.int d]))) a ∧
          ∃ ns : List Int, upd H2 D (.lst (acc ++ [.int d])) D = some (.lst (ns.map V.int)) ∧ ns.length = i + 1 ∧ ∀ n ∈ ns, 0 ≤ n ∧ n ≤ m := fun H2 d k2 F2 d0 d1 => by
        have hD2 := k2 _ _ nDf hD
        refine ⟨_, hD2, ?_, ?_, ?_, ns ++ [d], ?_, ?_, ?_⟩
        · rw [List.length_map]
          exact small1000 (by omega)
        · exact (kp.trans k2).late nD
        · exact F2.put nDf nDc
        · rw [upd_same, List.map_append]
          rfl
        · rw [List.length_append, hl]
          rfl
        · intro n hn
          rcases List.mem_append.mp hn with h | h
          · exact hb n h
          · rw [List.mem_singleton.mp h]
            exact ⟨d0, d1⟩
      refine ⟨.ref a, rfl, a, c, 3, rfl, by decide, by decide, F', fun d1 H1 _ _ k1 F1 => ?_⟩
      refine ⟨d1, 0, rfl, rfl, _, rfl, ite2 (fun _ => ?_) (fun _ => ?_)⟩
      · refine ⟨.ref a, rfl, .int m, rfl, m, 1, rfl, rfl, a, c, m + 1, rfl, by omega, by omega, F1, fun d2 H2 e0 e1 k2 F2 => ?_⟩
        exact more H2 d2 (k1.trans k2) F2 e0 (by omega)
      · exact more H1 0 k1 F1 (by decide) (by omega)
    · -- behind the comprehension
      refine ⟨fun σ' H2 => ∃ ns : List Int, σ' = [some (.ref a), some (.int g), some (.int m), some (.ref D), none] ∧ Kp a H H2 ∧ FeedAt c H2 a ∧ H2 D = some (.lst (ns.map V.int)) ∧ GoodRow g m ns, ?_, ?_⟩
      · refine ⟨.ref D, rfl, D, ns, rfl, SqL.of hD, rfl, _, rfl, ite2 (fun cs => ?_) (fun cs => ?_)⟩
        · refine ⟨.ref a, rfl, .int m, rfl, a, c, m, rfl, by omega, by omega, F', fun d1 H1 e0 e1 k1 F1 => ?_⟩
          refine ⟨1, d1, rfl, rfl, .ref D, rfl, .ref a, rfl, .int g, rfl, a, c, g, rfl, by omega, by omega, F1, fun d2 H2 c0 c1 k2 F2 => ?_⟩
          have hD2 : H2 D = some (.lst (ns.map V.int)) := k2 _ _ nDf (k1 _ _ nDf hD)
          have hj : ixN (ns.map V.int).length d2 = some d2.toNat := by
            unfold ixN
            rw [if_pos c0, if_pos (by rw [List.length_map]; omega)]
          refine ⟨D, _, d2, d2.toNat, rfl, rfl, hD2, hj, ns.set d2.toNat (1 + d1), rfl, ?_, ?_, ?_, ?_, ?_, ?_⟩
          · exact (kp.trans (k1.trans k2)).late nD
          · exact F2.put nDf nDc
          · rw [upd_same, List.map_set]
          · rw [List.length_set]
            exact hl
          · intro n hn
            rcases List.mem_or_eq_of_mem_set hn with h | h
            · exact hb n h
            · rw [h]
              omega
          · exact ⟨1 + d1, List.mem_iff_getElem.mpr ⟨d2.toNat, by rw [List.length_set]; omega, by simp⟩, by omega⟩
        · have hs : ns.sum ≠ 0 := fun z => cs (decide_eq_true (by rw [z]))
          exact ⟨ns, rfl, kp, F', hD, hl, hb, pos_of_sum (fun n hn => (hb n hn).1) hs⟩
      · rintro σ' H2 ⟨ms, rfl, k2, F2, hD2, G2⟩
        refine ⟨.ref D, rfl, D, _, rfl, .inl ⟨SqL.of hD2, fun p np => ?_⟩⟩
        exact q _ p ms (k2.trans (Kp.new np)) (F2.new np) (k2.free (F2.ne np) np) upd_same G2
end
end HL

namespace HL
open PySem PySem.Spec PyProof.Rows L2
open C8 (pss_cut)
section
variable {P : Program} {w : World} {K : PySem.W.Frag} {mg : Str → Option Value} {base : Heap}
/-! ### lots -/
/-- a lot as it should be -/
def GoodLot (g m : Int) (n : Nat) (ll : List (List Int)) : Prop := 1 ≤ ll.length ∧ ll.length ≤ n ∧ ∀ r ∈ ll, GoodRow g m r
def spLot : Sp := fun vs H Q _ => ∃ (f c : Addr) (g kk m : Int), vs = [.ref f, .int g, .int kk, .int m] ∧ FeedAt c H f ∧ 1 ≤ g ∧ g ≤ 100 ∧ 1 ≤ kk ∧ kk ≤ 100 ∧ 1 ≤ m ∧ m ≤ 100 ∧
  ∀ H' p ll, Kp f H H' → FeedAt c H' f → H p = none → LotAt H' p ll → GoodLot g m kk.toNat ll → Q (.ref p) H'
theorem ok_lot {f : Addr} {fd : FuncData} (F : Fun K "_law_lot" "_law_lot" sLot f fd) (B : Bl mg) (CD : Cal P w K mg base CX0 1 "_law_draw" ["_law_feed_here", "_law_many"] spDraw)
    (CH : Cal P w K mg base CX0 2 "_law_hold" ["_law_feed_here", "_law_goods", "_law_most"] spHold) : FnOk P w K mg base CX0 3 f fd ["_law_feed_here", "_law_goods", "_law_kinds", "_law_most"] spLot := by
  obtain ⟨fD, fdD, GD, gD, kD, bD⟩ := CD.ex
  obtain ⟨fH, fdH, GH, gH, kH, bH⟩ := CH.ex
  refine F.ok scLot (fun vs H Q E h => ?_) (fun cdv A outer s H vs Q E hr h => ?_)
  · obtain ⟨a, c, g, kk, m, rfl, _⟩ := h
    rfl
  · obtain ⟨a, c, g, kk, m, rfl, Fd, g1, g2, n1, n2, m1, m2, q⟩ := h
    refine ⟨_, pss_one (ps_ret (pe_callTy call_tuple_of (by rfl) B.tuple (by decide +kernel) (pa_cons
      (pe_lc (own := [("_law_kind", 4)]) (g := gName 4) (tt := tYes) rfl scLot.nd (pi_range1 (by rfl) B.range (pa_cons (pe_op op_add pe_int (pe_call GD (hr.mono (by decide)) (by rfl) gD kD bD .nil pass0 (pa_cons (pv 0) (pa_cons (pv 2) pa_nil)))) pa_nil))
        (blkOk_by (own := [("_law_kind", 4)]) (N := ["_law_feed_here", "_law_goods", "_law_kinds", "_law_most", "_law_kind"]) (sc := defScope sLot) (by decide +kernel)) (fun _ _ _ _ _ => pg_name (i := 4) scLot.nd rfl (Or.inl rfl)) (fun _ _ _ _ _ => pts_nil)
        (fun _ _ _ _ _ => pe_call GH hr (by rfl) gH kH bH .nil pass0 (pa_cons (pv 0) (pa_cons (pv 1) (pa_cons (pv 3) pa_nil))))) pa_nil))), ?_⟩
    refine ⟨.ref a, rfl, .int kk, rfl, a, c, kk, rfl, by omega, by omega, Fd, fun d H1 d0 d1 k1 F1 => ?_⟩
    refine ⟨1, d, rfl, rfl, 1 + d, rfl, by omega, by omega, fun D nD => ?_⟩
    have nDf : D ≠ a := F1.ne nD
    have nDc : D ≠ c := F1.neC nD
    have nD0 : H D = none := k1.free nDf nD
    refine lc_range (lo := 0) (n := (1 + d).toNat) (fun i H' => Kp a H H' ∧ FeedAt c H' a ∧ ∃ (as : List Addr) (ll : List (List Int)), H' D = some (.lst (as.map V.ref)) ∧ Rows H' as ll ∧ ll.length = i ∧ ∀ r ∈ ll, GoodRow g m r)
      ⟨k1.late nD0, F1.new nD, [], [], upd_same, True.intro, rfl, fun n hn => by cases hn⟩ (fun i H' hi ⟨kp, F', as, ll, hD, hR, hl, hb⟩ => ?_) (fun H' ⟨kp, F', as, ll, hD, hR, hl, hb⟩ => ?_)
    · refine ⟨rfl, yes (iteT ?_)⟩
      refine ⟨.ref a, rfl, .int g, rfl, .int m, rfl, a, c, g, m, rfl, F', g1, g2, m1, m2, fun H2 p ns k2 F2 np hp gr => ?_⟩
      have hD2 := k2 _ _ nDf hD
      have nt : ∀ b xs, H2 b = some (.tup xs) → upd H2 D (.lst (as.map V.ref ++ [.ref p])) b = some (.tup xs) := fun b xs e => by
        rw [upd_ne (ne_of e hD2 (fun z => by cases z))]
        exact e
      refine ⟨_, hD2, ?_, (kp.trans k2).late nD0, F2.put nDf nDc, as ++ [p], ll ++ [ns], ?_, ?_, ?_, ?_⟩
      · rw [List.length_map, hR.len]
        exact small1000 (by omega)
      · rw [upd_same, List.map_append]
        rfl
      · exact ((hR.kp F' k2).mono nt).app ⟨nt _ _ hp, True.intro⟩
      · rw [List.length_append, hl]
        rfl
      · intro r hr
        rcases List.mem_append.mp hr with h | h
        · exact hb r h
        · rw [List.mem_singleton.mp h]
          exact gr
    · refine ⟨D, _, rfl, .inl ⟨SqL.of hD, fun p np => ?_⟩⟩
      exact q _ p ll (kp.trans (Kp.new np)) (F'.new np) (kp.free (F'.ne np) np) ⟨as, upd_same, hR.same (same_new np)⟩ ⟨by omega, by omega, hb⟩
def spNoughts : Sp := fun vs H Q _ => ∃ n : Int, vs = [.int n] ∧ 1 ≤ n ∧ n ≤ 1000 ∧ ∀ H' p, Same H H' → H p = none → H' p = some (.tup ((List.replicate n.toNat (0 : Int)).map V.int)) → Q (.ref p) H'
theorem rep_one (v : V) : ∀ n : Nat, (List.replicate n [v]).flatten = List.replicate n v
  | 0 => rfl
  | n + 1 => by
    rw [List.replicate_succ, List.flatten_cons, rep_one v n, List.replicate_succ]
    rfl
theorem ok_noughts {f : Addr} {fd : FuncData} {k : Nat} (F : Fun K "_law_noughts" "_law_noughts" sNoughts f fd) : FnOk P w K mg base CX0 (k + 1) f fd ["_law_many"] spNoughts := by
  refine F.ok scNoughts (fun vs H Q E h => ?_) (fun cdv A outer s H vs Q E hr h => ?_)
  · obtain ⟨n, rfl, _⟩ := h
    rfl
  · obtain ⟨n, rfl, n1, n2, q⟩ := h
    refine ⟨_, pss_one (ps_ret (pe_op op_repA (pe_tup (pa_cons pe_int pa_nil)) (pv 0))), ?_⟩
    refine ⟨(by show 1 ≤ sizeLine; decide), fun t nt => ?_⟩
    refine ⟨.int n, rfl, t, n, [.int 0], rfl, rfl, SqT.of upd_same, by decide, n1, n2, by decide, fun e => ?_, fun e p np => ?_⟩
    · subst e
      exact q _ t (same_new nt) nt upd_same
    · refine q _ p ((same_new nt).trans (same_new np)) ((same_new nt).free np) ?_
      rw [upd_same, rep_one, List.map_replicate]
end
end HL

namespace HL
open PySem PySem.Spec PyProof.Rows L2
open C8 (pss_cut)
/-! ### what a lot must be -/
def okRow (g : Nat) (r : List Int) : Bool := decide (r.length = g) && (r.all (fun n => decide (0 ≤ n ∧ n ≤ 6)) && r.any (fun n => decide (0 < n)))
def flawIn (g : Nat) (ll : List (List Int)) : Option Int := (ll.findIdx? fun r => !okRow g r).map fun i => (i : Int)
def width (ll : List (List Int)) : Nat := (ll.headD []).length
def flaw (ll : List (List Int)) : Option Int := if 1 ≤ ll.length ∧ ll.length ≤ 5 ∧ 1 ≤ width ll ∧ width ll ≤ 3 then flawIn (width ll) ll else some (-1)
def flawV (ll : List (List Int)) : V := match flaw ll with
  | none => .non
  | some k => .int k
theorem flawIn_at {g : Nat} {ll : List (List Int)} {i : Nat} {r : List Int} (h : ll[i]? = some r) (hb : okRow g r = false) (ha : ∀ (j : Nat) (r' : List Int), j < i → ll[j]? = some r' → okRow g r' = true) : flawIn g ll = some (i : Int) := by
  unfold flawIn
  obtain ⟨hi, he⟩ := List.getElem?_eq_some_iff.mp h
  have e : ll.findIdx? (fun r => !okRow g r) = some i := by
    refine List.findIdx?_eq_some_iff_getElem.mpr ⟨hi, by rw [he, hb]; rfl, fun j hj => ?_⟩
    rw [ha j ll[j] hj (List.getElem?_eq_getElem (by omega))]
    decide
  rw [e]
  rfl
theorem flawIn_none {g : Nat} {ll : List (List Int)} (ha : ∀ (j : Nat) (r' : List Int), j < ll.length → ll[j]? = some r' → okRow g r' = true) : flawIn g ll = none := by
  unfold flawIn
  have e : ll.findIdx? (fun r => !okRow g r) = none := by
    refine List.findIdx?_eq_none_iff.mpr fun r hr => ?_
    obtain ⟨j, hj, hjr⟩ := List.mem_iff_getElem.mp hr
    rw [ha j r hj (by rw [List.getElem?_eq_getElem hj, hjr])]
    rfl
  rw [e]
  rfl
theorem all_in {r : List Int} : (r.all (fun n => decide (0 ≤ n ∧ n ≤ 6))) = true ↔ ∀ n ∈ r, 0 ≤ n ∧ n ≤ 6 := by
  rw [List.all_eq_true]
  exact ⟨fun h n hn => of_decide_eq_true (h n hn), fun h n hn => decide_eq_true (h n hn)⟩
theorem any_pos {r : List Int} : (r.any (fun n => decide (0 < n))) = true ↔ ∃ n ∈ r, 0 < n := by
  rw [List.any_eq_true]
  exact ⟨fun ⟨n, hn, h⟩ => ⟨n, hn, of_decide_eq_true h⟩, fun ⟨n, hn, h⟩ => ⟨n, hn, decide_eq_true h⟩⟩
theorem okRow_iff {g : Nat} {r : List Int} : okRow g r = true ↔ r.length = g ∧ (∀ n ∈ r, 0 ≤ n ∧ n ≤ 6) ∧ ∃ n ∈ r, 0 < n := by
  unfold okRow
  rw [Bool.and_eq_true, Bool.and_eq_true, decide_eq_true_iff, all_in, any_pos]
theorem sum_pos {r : List Int} (h0 : ∀ n ∈ r, 0 ≤ n) (h : ∃ n ∈ r, 0 < n) : 0 < r.sum := by
  induction r with
  | nil => obtain ⟨n, hn, _⟩ := h; cases hn
  | cons x r ih =>
    rw [List.sum_cons]
    have x0 := h0 x List.mem_cons_self
    have rest : 0 ≤ r.sum := by
      clear ih h
      induction r with
      | nil => exact Int.le_refl _
      | cons y r ih2 =>
        rw [List.sum_cons]
        have := h0 y (List.mem_cons_of_mem _ List.mem_cons_self)
        have := ih2 fun n hn => h0 n (by
          rcases List.mem_cons.mp hn with h | h
          · rw [h]; exact List.mem_cons_self
          · exact List.mem_cons_of_mem _ (List.mem_cons_of_mem _ h))
        omega
    obtain ⟨n, hn, hp⟩ := h
    rcases List.mem_cons.mp hn with h | h
    · omega
    · have := ih (fun n hn => h0 n (List.mem_cons_of_mem _ hn)) ⟨n, h, hp⟩
      omega
/-- 1 <= x <= 5 as a test -/
theorem chainI {i j L : Int} {H : Hp} {Q : Bool → Hp → Prop} (h : Q (decide (i ≤ L ∧ L ≤ j)) H) :
    if decide (i ≤ L) = true then (∃ a b : Int, V.int L = V.int a ∧ V.int j = V.int b ∧ ∃ k, V.bl (decide (a ≤ b)) = V.bl k ∧ Q k H) else ∃ k, V.bl false = V.bl k ∧ Q k H := by
  by_cases c : i ≤ L
  · rw [if_pos (decide_eq_true c)]
    refine ⟨L, j, rfl, rfl, _, rfl, ?_⟩
    rw [show decide (L ≤ j) = decide (i ≤ L ∧ L ≤ j) by simp [c]]
    exact h
  · rw [if_neg (fun z => c (of_decide_eq_true z))]
    refine ⟨false, rfl, ?_⟩
    rw [show false = decide (i ≤ L ∧ L ≤ j) by simp [c]]
    exact h
theorem Rows.head {H : Hp} {as : List Addr} {ll : List (List Int)} (h : Rows H as ll) (hl : 1 ≤ ll.length) : ∃ a, as[0]? = some a ∧ H a = some (.tup ((ll.headD []).map V.int)) ∧ (ll.headD []).length = width ll := by
  cases as with
  | nil =>
    cases ll with
    | nil => simp at hl
    | cons r rs => exact h.elim
  | cons a as =>
    cases ll with
    | nil => simp at hl
    | cons r rs => exact ⟨a, rfl, h.1, rfl⟩
end HL

namespace HL
open PySem PySem.Spec PyProof.Rows L2
open C8 (pss_cut)
open RZ (pi_zipA ItzT iZipA)
theorem scIH : FnScope ["hold", "goods", "amount"] ["hold", "goods"] (defScope sIsHold) := ⟨rfl, rfl, rfl, by decide +kernel, rfl, by decide +kernel, by decide +kernel⟩
theorem scLk : FnScope ["lot", "kind", "hold"] ["lot"] (defScope sLook) := ⟨rfl, rfl, rfl, by decide +kernel, rfl, by decide +kernel, by decide +kernel⟩
theorem scGo : FnScope ["lot"] ["lot"] (defScope sGoods) := ⟨rfl, rfl, rfl, by decide +kernel, rfl, by decide +kernel, by decide +kernel⟩
/-- 0 <= x <= 6 as a value -/
theorem chainV {i j L : Int} {H : Hp} {σ : L2.St} {Q : VK} (h : Q (.bl (decide (i ≤ L ∧ L ≤ j))) H) :
    if decide (i ≤ L) = true then tC (.int j) σ H (fun v H4 => rI0 (fun i j => V.bl (decide (i ≤ j))) (.int L) v H4 Q) else Q (.bl false) H := by
  by_cases c : i ≤ L
  · rw [if_pos (decide_eq_true c)]
    refine ⟨L, j, rfl, rfl, ?_⟩
    show Q (.bl (decide (L ≤ j))) H
    rw [show decide (L ≤ j) = decide (i ≤ L ∧ L ≤ j) by simp [c]]
    exact h
  · rw [if_neg (fun z => c (of_decide_eq_true z))]
    rw [show false = decide (i ≤ L ∧ L ≤ j) by simp [c]]
    exact h
section
variable {P : Program} {w : World} {K : PySem.W.Frag} {mg : Str → Option Value} {base : Heap}
def spIsHold : Sp := fun vs H Q _ => ∃ (a : Addr) (g : Nat) (r : List Int), vs = [.ref a, .int (g : Int)] ∧ H a = some (.tup (r.map V.int)) ∧ r.length ≤ 1000 ∧ 1 ≤ g ∧ ∀ H', Same H H' → Q (.bl (okRow g r)) H'
structure Consts (mg : Str → Option Value) : Prop where
  hold : ∃ t, mg "MOST_HOLD" = some (.int 6 t)
  kinds : ∃ t, mg "MOST_KINDS" = some (.int 5 t)
  goods : ∃ t, mg "MOST_GOODS" = some (.int 3 t)
theorem ok_isHold {f : Addr} {fd : FuncData} {k : Nat} (F : Fun K "is_hold" "is_hold" sIsHold f fd) (B : Bl mg) (M : Consts mg) : FnOk P w K mg base CX0 (k + 1) f fd ["hold", "goods"] spIsHold := by
  obtain ⟨t6, m6⟩ := M.hold
  refine F.ok scIH (fun vs H Q E h => ?_) (fun cdv A outer s H vs Q E hr h => ?_)
  · obtain ⟨a, g, r, rfl, _⟩ := h
    rfl
  · obtain ⟨a, g, r, rfl, ha, hz, g1, q⟩ := h
    refine ⟨_, pss_one (ps_ret (pe_and (pe_cmpR op_eq (pe_callB call_len_seq (by rfl) B.len PySem.boot_len (pa_cons (pv 0) pa_nil)) (pv 1) (nomark _))
      (pe_and (pe_callB (cr_all rfl) (by rfl) B.all (by decide +kernel) (pa_cons (pe_lc (own := [("amount", 2)]) (g := gName 2) (tt := tYes) rfl scIH.nd (pi_tup (pv 0))
          (blkOk_by (own := [("amount", 2)]) (N := ["hold", "goods", "amount"]) (sc := defScope sIsHold) (by decide +kernel)) (fun _ _ _ _ _ => pg_name (i := 2) scIH.nd rfl (Or.inl rfl)) (fun _ _ _ _ _ => pts_nil)
          (fun _ _ _ _ _ => pe_chain op_le op_le pe_int (pv 2) (pe_glob (v := .int 6) rfl m6 ⟨_, rfl⟩))) pa_nil))
        (pe_one (pe_cmpR op_gt (pe_callB (cr_maxT rfl hr.units) (by rfl) B.max (by decide +kernel) (pa_cons (pv 0) pa_nil)) pe_int (nomark _)))))), ?_⟩
    have sA : SqT K H a (r.map V.int) := SqT.of ha
    refine ⟨.ref a, rfl, a, _, rfl, .inr sA, .int (g : Int), rfl, rfl, _, rfl, ?_⟩
    rw [List.length_map]
    refine ite2 (fun c1 => ?_) (fun c1 => ?_)
    · have hl : r.length = g := by
        have := V.int.inj (of_decide_eq_true c1)
        omega
      refine ⟨.ref a, rfl, a, rfl, ⟨_, sA⟩, fun D nD => ?_⟩
      refine lc_tup (K := K) (a := a) (xs := r.map V.int) (fun i H' => Same H H' ∧ H' D = some (.lst (((r.take i).map fun n => decide (0 ≤ n ∧ n ≤ 6)).map V.bl))) ⟨same_new nD, upd_same⟩ (fun i H' _ ⟨sm, _⟩ => SqT.of (sm _ _ ha)) (fun i x H' hx ⟨sm, hD⟩ => ?_) (fun H' ⟨sm, hD⟩ => ?_)
      · obtain ⟨n, hn, rfl⟩ : ∃ n, r[i]? = some n ∧ x = V.int n := by
          rw [List.getElem?_map] at hx
          cases e : r[i]? with
          | none => rw [e] at hx; cases hx
          | some n => rw [e] at hx; exact ⟨n, rfl, (Option.some.inj hx).symm⟩
        refine ⟨rfl, yes (iteT ?_)⟩
        refine ⟨.int n, rfl, 0, n, rfl, rfl, _, rfl, chainV ?_⟩
        refine ⟨_, hD, ?_, same_late sm nD, ?_⟩
        · rw [List.length_map, List.length_map]
          exact small1000 (Nat.le_trans (List.length_take_le' _ _) hz)
        · rw [upd_same, List.take_add_one, hn, List.map_append, List.map_append]
          rfl
      · rw [List.length_map, List.take_length] at hD
        refine ⟨D, _, rfl, SqL.of hD, _, rfl, ?_⟩
        have eall : ((r.map fun n => decide (0 ≤ n ∧ n ≤ 6)).all id) = r.all (fun n => decide (0 ≤ n ∧ n ≤ 6)) := by
          rw [List.all_map]
          rfl
        rw [eall]
        refine ite2 (fun c2 => ?_) (fun c2 => ?_)
        · refine ⟨.ref a, rfl, a, r, rfl, SqT.of (sm _ _ ha), by omega, fun mx hmx hmax => ?_⟩
          refine ⟨mx, 0, rfl, rfl, ?_⟩
          have e : decide ((0 : Int) < mx) = okRow g r := by
            unfold okRow
            rw [decide_eq_true hl, c2, Bool.true_and, Bool.true_and]
            by_cases z : 0 < mx
            · rw [decide_eq_true z, any_pos.mpr ⟨mx, hmx, z⟩]
            · rw [decide_eq_false z]
              cases y : r.any (fun n => decide (0 < n)) with
              | false => rfl
              | true =>
                obtain ⟨n, hn, h0⟩ := any_pos.mp y
                have := hmax n hn
                omega
          have q1 := q H' sm
          rw [← e] at q1
          exact q1
        · have e : okRow g r = false := by
            unfold okRow
            rw [Bool.eq_false_iff.mpr c2, Bool.false_and, Bool.and_false]
          have q1 := q H' sm
          rw [e] at q1
          exact q1
    · have e : okRow g r = false := by
        unfold okRow
        rw [decide_eq_false (fun z => c1 (decide_eq_true (by rw [z]))), Bool.false_and]
      have q1 := q H (Same.refl _)
      rw [e] at q1
      exact q1
end
theorem flaw_ok {ll : List (List Int)} (h : flaw ll = none) : 1 ≤ ll.length ∧ ll.length ≤ 5 ∧ 1 ≤ width ll ∧ width ll ≤ 3 := by
  unfold flaw at h
  by_cases c : 1 ≤ ll.length ∧ ll.length ≤ 5 ∧ 1 ≤ width ll ∧ width ll ≤ 3
  · exact c
  · rw [if_neg c] at h
    cases h
theorem flaw_rows {ll : List (List Int)} (h : flaw ll = none) : ∀ r ∈ ll, r.length = width ll ∧ ∀ n ∈ r, 0 ≤ n ∧ n ≤ 6 := by
  have h0 := flaw_ok h
  unfold flaw at h
  rw [if_pos ⟨h0.1, h0.2.1, h0.2.2.1, h0.2.2.2⟩] at h
  unfold flawIn at h
  have e : ll.findIdx? (fun r => !okRow (width ll) r) = none := by
    cases z : ll.findIdx? (fun r => !okRow (width ll) r) with
    | none => rfl
    | some i => rw [z] at h; cases h
  intro r hr
  have := List.findIdx?_eq_none_iff.mp e r hr
  have b : okRow (width ll) r = true := by
    cases z : okRow (width ll) r with
    | true => rfl
    | false => rw [z] at this; cases this
  obtain ⟨o1, o2, _⟩ := okRow_iff.mp b
  exact ⟨o1, o2⟩
theorem nilA {σ : L2.St} {H : Hp} {Q : List V → Hp → Prop} (h : Q [] H) : tNil σ H Q := h
/-- i <= x <= e, e any expression -/
theorem chainE {i j L : Int} {te : TE} {σ : L2.St} {H : Hp} {Q : Bool → Hp → Prop} (hte : ∀ Q' : VK, Q' (.int j) H → te σ H Q') (h : Q (decide (i ≤ L ∧ L ≤ j)) H) :
    if decide (i ≤ L) = true then te σ H (fun v H4 => rI0 (fun i j => V.bl (decide (i ≤ j))) (.int L) v H4 (fun x H' => ∃ k, x = .bl k ∧ Q k H')) else ∃ k, V.bl false = V.bl k ∧ Q k H := by
  by_cases c : i ≤ L
  · rw [if_pos (decide_eq_true c)]
    refine hte _ ⟨L, j, rfl, rfl, _, rfl, ?_⟩
    rw [show decide (L ≤ j) = decide (i ≤ L ∧ L ≤ j) by simp [c]]
    exact h
  · rw [if_neg (fun z => c (of_decide_eq_true z))]
    refine ⟨false, rfl, ?_⟩
    rw [show false = decide (i ≤ L ∧ L ≤ j) by simp [c]]
    exact h
/-- i <= x < e -/
theorem chainF {i j L : Int} {te : TE} {σ : L2.St} {H : Hp} {Q : Bool → Hp → Prop} (hte : ∀ Q' : VK, Q' (.int j) H → te σ H Q') (h : Q (decide (i ≤ L ∧ L < j)) H) :
    if decide (i ≤ L) = true then te σ H (fun v H4 => rI0 (fun i j => V.bl (decide (i < j))) (.int L) v H4 (fun x H' => ∃ k, x = .bl k ∧ Q k H')) else ∃ k, V.bl false = V.bl k ∧ Q k H := by
  by_cases c : i ≤ L
  · rw [if_pos (decide_eq_true c)]
    refine hte _ ⟨L, j, rfl, rfl, _, rfl, ?_⟩
    rw [show decide (L < j) = decide (i ≤ L ∧ L < j) by simp [c]]
    exact h
  · rw [if_neg (fun z => c (of_decide_eq_true z))]
    refine ⟨false, rfl, ?_⟩
    rw [show false = decide (i ≤ L ∧ L < j) by simp [c]]
    exact h
end HL

namespace HL
open PySem PySem.Spec PyProof.Rows L2
open C8 (pss_cut)
/-! ### tuples cut and joined -/
theorem sz1000 {n : Nat} (h : n ≤ 1000) : n ≤ sizeLine := Nat.le_of_lt (small1000 h)
theorem cat_read {K : PySem.W.Frag} {H : Hp} {a b : Addr} {xs ys : List V} {Q : VK} (ha : H a = some (.tup xs)) (hb : H b = some (.tup ys)) (hz : xs.length + ys.length ≤ 1000)
    (q : ∀ p H', Same H H' → H' p = some (.tup (xs ++ ys)) → Q (.ref p) H') : rCatA K (.ref a) (.ref b) H Q := by
  refine ⟨a, b, xs, ys, rfl, rfl, SqT.of ha, SqT.of hb, sz1000 hz, fun e => ?_, fun _ e => ?_, fun _ _ p np => q p _ (same_new np) upd_same⟩
  · subst e
    exact q b H (Same.refl _) hb
  · subst e
    exact q a H (Same.refl _) (by rw [List.append_nil]; exact ha)
theorem slice_read {K : PySem.W.Frag} {H : Hp} {a : Addr} {xs : List V} {lo hi : Option Int} {Q : VK} (ha : H a = some (.tup xs)) (q : ∀ p H', Same H H' → H' p = some (.tup (cutV xs lo hi)) → Q (.ref p) H') : rSlA K (.ref a) lo hi H Q := by
  refine ⟨a, xs, rfl, SqT.of ha, fun e => ?_, fun _ p np => q p _ (same_new np) upd_same⟩
  refine q a H (Same.refl _) ?_
  unfold cutV
  rw [e.1, e.2, List.drop_zero, Nat.sub_zero, List.take_length]
  exact ha
theorem cut_ex (L : Nat) (lo hi : Option Int) : ∃ n m : Nat, ∀ {α : Type} (f : α → V) (l : List α), l.length = L → cutV (l.map f) lo hi = ((l.drop n).take m).map f :=
  ⟨HT.sIx L 0 lo, HT.sIx L L hi - HT.sIx L 0 lo, fun f l h => by
    unfold cutV
    rw [List.length_map, h, List.map_take, List.map_drop]⟩
/-- a tuple of ints, a tuple of rows -/
def IntsAt (H : Hp) (p : Addr) (ns : List Int) : Prop := H p = some (.tup (ns.map V.int))
def RowsAt (H : Hp) (p : Addr) (as : List Addr) (ll : List (List Int)) : Prop := H p = some (.tup (as.map V.ref)) ∧ Rows H as ll
theorem IntsAt.same {H H' : Hp} {p : Addr} {ns : List Int} (h : IntsAt H p ns) (s : Same H H') : IntsAt H' p ns := s _ _ h
theorem RowsAt.same {H H' : Hp} {p : Addr} {as : List Addr} {ll : List (List Int)} (h : RowsAt H p as ll) (s : Same H H') : RowsAt H' p as ll := ⟨s _ _ h.1, h.2.same s⟩
theorem RowsAt.kp {H H' : Hp} {f c p : Addr} {as : List Addr} {ll : List (List Int)} (h : RowsAt H p as ll) (F : FeedAt c H f) (k : Kp f H H') : RowsAt H' p as ll := ⟨k _ _ (F.tup h.1) h.1, h.2.kp F k⟩
theorem RowsAt.lot {H : Hp} {p : Addr} {as : List Addr} {ll : List (List Int)} (h : RowsAt H p as ll) : LotAt H p ll := ⟨as, h.1, h.2⟩
theorem IntsAt.kp {H H' : Hp} {f c p : Addr} {ns : List Int} (h : IntsAt H p ns) (F : FeedAt c H f) (k : Kp f H H') : IntsAt H' p ns := k _ _ (F.tup h) h
theorem cat_ints {K : PySem.W.Frag} {H : Hp} {a b : Addr} {xs ys : List Int} {Q : VK} (ha : IntsAt H a xs) (hb : IntsAt H b ys) (hz : xs.length + ys.length ≤ 1000)
    (q : ∀ p H', Same H H' → IntsAt H' p (xs ++ ys) → Q (.ref p) H') : rCatA K (.ref a) (.ref b) H Q :=
  cat_read ha hb (by rw [List.length_map, List.length_map]; exact hz) fun p H' s h => q p H' s (by unfold IntsAt; rw [List.map_append]; exact h)
theorem cat_rows {K : PySem.W.Frag} {H : Hp} {a b : Addr} {as bs : List Addr} {ll mm : List (List Int)} {Q : VK} (ha : RowsAt H a as ll) (hb : RowsAt H b bs mm) (hz : ll.length + mm.length ≤ 1000)
    (q : ∀ p H', Same H H' → RowsAt H' p (as ++ bs) (ll ++ mm) → Q (.ref p) H') : rCatA K (.ref a) (.ref b) H Q :=
  cat_read ha.1 hb.1 (by rw [List.length_map, List.length_map, ha.2.len, hb.2.len]; exact hz) fun p H' s h => q p H' s ⟨by rw [List.map_append]; exact h, (ha.2.same s).app (hb.2.same s)⟩
theorem slice_ints {K : PySem.W.Frag} {H : Hp} {a : Addr} {xs : List Int} {lo hi : Option Int} {Q : VK} (ha : IntsAt H a xs) (q : ∀ p H' n m, Same H H' → IntsAt H' p ((xs.drop n).take m) → Q (.ref p) H') : rSlA K (.ref a) lo hi H Q := by
  obtain ⟨n, m, e⟩ := cut_ex xs.length lo hi
  exact slice_read ha fun p H' s h => q p H' n m s (by unfold IntsAt; rw [← e V.int xs rfl]; exact h)
theorem slice_rows {K : PySem.W.Frag} {H : Hp} {a : Addr} {as : List Addr} {ll : List (List Int)} {lo hi : Option Int} {Q : VK} (ha : RowsAt H a as ll)
    (q : ∀ p H' n m, Same H H' → RowsAt H' p ((as.drop n).take m) ((ll.drop n).take m) → Q (.ref p) H') : rSlA K (.ref a) lo hi H Q := by
  obtain ⟨n, m, e⟩ := cut_ex as.length lo hi
  exact slice_read ha.1 fun p H' s h => q p H' n m s ⟨by rw [← e V.ref as rfl]; exact h, ((ha.2.same s).drop n).take m⟩
theorem len_cut {α : Type} (l : List α) (n m : Nat) : ((l.drop n).take m).length ≤ l.length := by
  rw [List.length_take, List.length_drop]
  omega
theorem mem_cut {α : Type} {l : List α} {n m : Nat} {x : α} (h : x ∈ (l.drop n).take m) : x ∈ l := List.mem_of_mem_drop (List.mem_of_mem_take h)
theorem one_row {H : Hp} {t r : Addr} {row : List Int} (h : IntsAt H r row) (nt : H t = none) : RowsAt (upd H t (.tup [.ref r])) t [r] [row] := ⟨upd_same, ⟨(same_new nt) _ _ h, True.intro⟩⟩
theorem sz_1 (v : V) : [v].length ≤ sizeLine := by
  show 1 ≤ sizeLine
  decide
theorem noPart {σ : L2.St} {H : Hp} {Q : Option Int → Hp → Prop} (h : Q none H) : tNoPart σ H Q := h
end HL

namespace HL
open PySem PySem.Spec PyProof.Rows L2
open C8 (pss_cut)
open RZ (pi_zipA ItzT iZipA)
abbrev G30 : Int := 1000000000000000000000000000000
section
variable {prog : Program} {w : World} {A : Around} {E : Value → Shared → Prop} {s : Shared} {a b : Int} {t u : Tok}
theorem imul_int {Q : Value → Shared → Prop} (h : Q (.int (a * b) s.toks) { s with toks := s.toks + 1 }) (hm : IntMulOk a b) : wpAny (model prog w) A (inplaceOp .Mult (.int a t) (.int b u)) Q E s :=
  inplaceOp_gives (op := .Mult) (typeIs_int s a t) (typeIs_int s b u) F.noI_int_mul F.fills_int_mul F.slot_int_mul F.entry_int_mul (F.args_int_mul_2 _ _) (gives_int_mul a b t u hm) trivial h
end
/-- x *= y -/
def ipM : TIp := fun x y H Q => ∃ i j, x = .int i ∧ y = .int j ∧ CMul i j ∧ Q (.int (i * j)) H
theorem ip_mul {X : Cx} : PIp X .Mult ipM := by
  intro pins s σ H x y v u Q I r1 r2 h
  obtain ⟨i, j, e1, e2, hc, q⟩ := h
  subst e1; subst e2
  obtain ⟨t, rfl⟩ := r1
  obtain ⟨t', rfl⟩ := r2
  exact imul_int ⟨.int _, H, I.tok _, ⟨_, rfl⟩, q⟩ hc.ok
def boxI (b : List Int) : Int := b.foldl (fun x a => x * (a + 1)) 1
theorem box_from : ∀ {b : List Int} {x : Int}, 1 ≤ x → (∀ n ∈ b, 0 ≤ n) → x ≤ b.foldl (fun x a => x * (a + 1)) x
  | [], x, _, _ => Int.le_refl _
  | a :: b, x, hx, hb => by
    have a0 := hb a List.mem_cons_self
    have h1 : x * 1 ≤ x * (a + 1) := Int.mul_le_mul_of_nonneg_left (by omega) (by omega)
    rw [Int.mul_one] at h1
    exact Int.le_trans h1 (box_from (by omega) fun n hn => hb n (List.mem_cons_of_mem _ hn))
theorem box_take {b : List Int} {i : Nat} (hb : ∀ n ∈ b, 0 ≤ n) : 1 ≤ boxI (b.take i) ∧ boxI (b.take i) ≤ boxI b := by
  have h1 : 1 ≤ boxI (b.take i) := box_from (Int.le_refl _) fun n hn => hb n (List.mem_of_mem_take hn)
  refine ⟨h1, ?_⟩
  have e : boxI b = (b.drop i).foldl (fun x a => x * (a + 1)) (boxI (b.take i)) := by
    unfold boxI
    rw [← List.foldl_append, List.take_append_drop]
  rw [e]
  exact box_from h1 fun n hn => hb n (List.mem_of_mem_drop hn)
theorem scFirst : FnScope ["row", "many", "place", "number"] ["row", "many"] (defScope sFirst) := ⟨rfl, rfl, rfl, by decide +kernel, rfl, by decide +kernel, by decide +kernel⟩
theorem scLB : FnScope ["lot", "bill", "wrong"] ["lot", "bill"] (defScope sLookBill) := ⟨rfl, rfl, rfl, by decide +kernel, rfl, by decide +kernel, by decide +kernel⟩
theorem scBx : FnScope ["bill", "box", "amount"] ["bill"] (defScope sBox) := ⟨rfl, rfl, rfl, by decide +kernel, rfl, by decide +kernel, by decide +kernel⟩
theorem scBt : FnScope ["lot", "bill"] ["lot", "bill"] (defScope sBoth) := ⟨rfl, rfl, rfl, by decide +kernel, rfl, by decide +kernel, by decide +kernel⟩
theorem scLe : FnScope ["row", "other", "times", "number", "taken"] ["row", "other", "times"] (defScope sLess) := ⟨rfl, rfl, rfl, by decide +kernel, rfl, by decide +kernel, by decide +kernel⟩
section
variable {P : Program} {w : World} {K : PySem.W.Frag} {mg : Str → Option Value} {base : Heap}
theorem okRow_all {ll : List (List Int)} (h : flaw ll = none) : ∀ r ∈ ll, okRow (width ll) r = true := fun r hr => by
  have h0 := flaw_ok h
  unfold flaw at h
  rw [if_pos ⟨h0.1, h0.2.1, h0.2.2.1, h0.2.2.2⟩] at h
  unfold flawIn at h
  have e : ll.findIdx? (fun r => !okRow (width ll) r) = none := by
    cases z : ll.findIdx? (fun r => !okRow (width ll) r) with
    | none => rfl
    | some i => rw [z] at h; cases h
  have := List.findIdx?_eq_none_iff.mp e r hr
  cases z : okRow (width ll) r with
  | true => rfl
  | false => rw [z] at this; cases this
/-! ### a lot that is one -/
def spLook0 : Sp := fun vs H Q _ => ∃ (p : Addr) (as : List Addr) (ll : List (List Int)), vs = [.ref p] ∧ RowsAt H p as ll ∧ flaw ll = none ∧ ∀ H', Same H H' → Q .non H'
theorem ok_look0 {f : Addr} {fd : FuncData} (F : Fun K "look_lot" "look_lot" sLook f fd) (B : Bl mg) (M : Consts mg) (CH : Cal P w K mg base CX0 1 "is_hold" ["hold", "goods"] spIsHold) : FnOk P w K mg base CX0 2 f fd ["lot"] spLook0 := by
  obtain ⟨t5, m5⟩ := M.kinds
  obtain ⟨t3, m3⟩ := M.goods
  obtain ⟨fH, fdH, GH, gH, kH, bH⟩ := CH.ex
  refine F.ok scLk (fun vs H Q E h => ?_) (fun cdv A outer s H vs Q E hr h => ?_)
  · obtain ⟨p, as, ll, rfl, _⟩ := h
    rfl
  · obtain ⟨p, as, ll, rfl, hL, ef, q0⟩ := h
    have hok := flaw_ok ef
    have hrows := flaw_rows ef
    have hlen := hL.2.len
    refine ⟨_, pss_cons (ps_if (PW.pt (pw_or (pt_not (pt_chain op_le op_le pe_int (pe_callB call_len_seq (by rfl) B.len PySem.boot_len (pa_cons (pv 0) pa_nil)) (pe_glob (v := .int 5) rfl m5 ⟨_, rfl⟩)))
          (pw_or1 (pt_not (pt_chain op_le op_le pe_int (pe_callB call_len_seq (by rfl) B.len PySem.boot_len (pa_cons (pe_ix ix_tup (pv 0) pe_int (fun _ _ => rfl)) pa_nil)) (pe_glob (v := .int 3) rfl m3 ⟨_, rfl⟩)))))) pss_never pss_nil)
      (pss_one (ps_for PassesOwn.never rfl (pi_enumT (by rfl) B.enumerate (pa_cons (pv 0) pa_nil)) (pg_tup rfl (pgs_cons (pg_name (i := 1) scLk.nd rfl (.inl rfl)) (pgs_cons (pg_name (i := 2) scLk.nd rfl (.inl rfl)) pgs_nil)))
        (pss_one (ps_if (pt_not (pt_val (pe_call GH hr (by rfl) gH kH bH .nil pass0 (pa_cons (pv 2) (pa_cons (pe_callB call_len_seq (by rfl) B.len PySem.boot_len (pa_cons (pe_ix ix_tup (pv 0) pe_int (fun _ _ => rfl)) pa_nil)) pa_nil))))) pss_never pss_nil)))), ?_⟩
    have sP : SqT K H p (as.map V.ref) := SqT.of hL.1
    obtain ⟨a0, ha0, hh0, hw⟩ := hL.2.head hok.1
    have at0 : atI (as.map V.ref) 0 = some (.ref a0) := atI_nat (j := 0) (by rw [List.getElem?_map, ha0]; rfl)
    refine ⟨.ref p, rfl, p, _, rfl, .inr sP, 1, _, rfl, rfl, _, rfl, chainI ?_⟩
    rw [List.length_map, hlen, decide_eq_true (show (1 : Int) ≤ (ll.length : Nat) ∧ ((ll.length : Nat) : Int) ≤ 5 by omega)]
    refine iteF ?_
    refine ⟨.ref p, rfl, p, _, 0, .ref a0, rfl, rfl, sP, at0, a0, _, rfl, .inr (SqT.of hh0), 1, _, rfl, rfl, _, rfl, chainI ?_⟩
    rw [List.length_map, hw, decide_eq_true (show (1 : Int) ≤ (width ll : Nat) ∧ ((width ll : Nat) : Int) ≤ 3 by omega)]
    refine iteF ?_
    refine ⟨.ref p, rfl, p, _, rfl, sP, ?_⟩
    refine ⟨fun i m σ H' => i + m = as.length ∧ Same H H' ∧ (∃ y1 y2, σ = [some (.ref p), y1, y2]), ⟨as.length, by omega, Same.refl _, ⟨none, none, rfl⟩⟩, fun i m σ H' hW => ?_⟩
    obtain ⟨em, sm, ⟨y1, y2, rfl⟩⟩ := hW
    have sP' : SqT K H' p (as.map V.ref) := SqT.of (sm _ _ hL.1)
    by_cases hi : i < as.length
    · have hai : as[i]? = some as[i] := List.getElem?_eq_getElem hi
      obtain ⟨r, hr1, hr2⟩ := hL.2.at hai
      have g1 : (as.map V.ref)[i]? = some (.ref as[i]) := by rw [List.getElem?_map, hai]; rfl
      refine .inr ⟨⟨_, _, sP', g1⟩, fun σ' H2 => Same H H2 ∧ (∃ y1 y2, σ' = [some (.ref p), y1, y2]), fun σ' H2 hN => ⟨m - 1, by omega, by omega, hN⟩, fun x H2 hy => ?_⟩
      obtain ⟨T2, x2, rfl, nT, rfl, f2⟩ := hy
      have ex2 : x2 = .ref as[i] := Option.some.inj ((f2 _ sP').symm.trans g1)
      subst ex2
      have s3 : Same H (upd H' T2 (.tup [.int (i : Nat), .ref as[i]])) := sm.trans (same_new nT)
      refine ⟨T2, _, rfl, SqT.of upd_same, rfl, _, _, rfl, _, _, rfl, rfl, ?_⟩
      refine ⟨.ref as[i], rfl, .ref p, rfl, p, _, 0, .ref a0, rfl, rfl, SqT.of (s3 _ _ hL.1), at0, a0, _, rfl, .inr (SqT.of (s3 _ _ hh0)), as[i], width ll, r, ?_, s3 _ _ hr2, by have := (hrows r (List.mem_of_getElem? hr1)).1; omega, hok.2.2.1, fun H4 s4 => ⟨_, rfl, ?_⟩⟩
      · rw [List.length_map, hw]
        rfl
      · rw [okRow_all ef r (List.mem_of_getElem? hr1)]
        exact iteF ⟨s3.trans s4, ⟨_, _, rfl⟩⟩
    · exact .inl ⟨⟨_, sP', by rw [List.length_map]; omega⟩, q0 H' sm⟩
def spGoods0 : Sp := fun vs H Q _ => ∃ (p : Addr) (as : List Addr) (ll : List (List Int)), vs = [.ref p] ∧ RowsAt H p as ll ∧ flaw ll = none ∧ ∀ H', Same H H' → Q (.int (width ll : Nat)) H'
theorem ok_goods0 {f : Addr} {fd : FuncData} (F : Fun K "goods_of" "goods_of" sGoods f fd) (B : Bl mg) (CL : Cal P w K mg base CX0 2 "look_lot" ["lot"] spLook0) : FnOk P w K mg base CX0 3 f fd ["lot"] spGoods0 := by
  obtain ⟨fL, fdL, GL, gL, kL, bL⟩ := CL.ex
  refine F.ok scGo (fun vs H Q E h => ?_) (fun cdv A outer s H vs Q E hr h => ?_)
  · obtain ⟨p, as, ll, rfl, _⟩ := h
    rfl
  · obtain ⟨p, as, ll, rfl, hL, ef, q0⟩ := h
    refine ⟨_, pss_cons (ps_expr (pe_call GL hr (by rfl) gL kL bL .nil pass0 (pa_cons (pv 0) pa_nil)))
      (pss_one (ps_ret (pe_callB call_len_seq (by rfl) B.len PySem.boot_len (pa_cons (pe_ix ix_tup (pv 0) pe_int (fun _ _ => rfl)) pa_nil)))), ?_⟩
    refine ⟨.ref p, rfl, p, as, ll, rfl, hL, ef, fun H' sm => ?_⟩
    obtain ⟨a0, ha0, hh0, hw⟩ := (hL.same sm).2.head (flaw_ok ef).1
    have at0 : atI (as.map V.ref) 0 = some (.ref a0) := atI_nat (j := 0) (by rw [List.getElem?_map, ha0]; rfl)
    refine ⟨.ref p, rfl, p, _, 0, .ref a0, rfl, rfl, SqT.of (hL.same sm).1, at0, a0, _, rfl, .inr (SqT.of hh0), ?_⟩
    rw [List.length_map, hw]
    exact q0 H' sm
/-! ### a bill that is one -/
def spFirst0 : Sp := fun vs H Q _ => ∃ (a : Addr) (m : Nat) (row : List Int), vs = [.ref a, .int (m : Int)] ∧ IntsAt H a row ∧ row.length = m ∧ row.length ≤ 100 ∧ (∀ n ∈ row, 0 ≤ n ∧ n < G30) ∧ ∀ H', Same H H' → Q .non H'
theorem ok_first0 {f : Addr} {fd : FuncData} {k : Nat} (F : Fun K "first_wrong" "first_wrong" sFirst f fd) (B : Bl mg) (mG : ∃ t, mg "GREAT" = some (.int G30 t)) : FnOk P w K mg base CX0 (k + 1) f fd ["row", "many"] spFirst0 := by
  obtain ⟨tG, mG⟩ := mG
  refine F.ok scFirst (fun vs H Q E h => ?_) (fun cdv A outer s H vs Q E hr h => ?_)
  · obtain ⟨a, m, row, rfl, _⟩ := h
    rfl
  · obtain ⟨a, m, row, rfl, hA, hl, hz, hb, q⟩ := h
    refine ⟨_, pss_cons (ps_if (pt_cmpR op_ne (pe_callB call_len_seq (by rfl) B.len PySem.boot_len (pa_cons (pv 0) pa_nil)) (pv 1) (nomark _)) pss_never pss_nil)
      (pss_cons (ps_for PassesOwn.never rfl (pi_enumT (by rfl) B.enumerate (pa_cons (pv 0) pa_nil)) (pg_tup rfl (pgs_cons (pg_name (i := 2) scFirst.nd rfl (.inl rfl)) (pgs_cons (pg_name (i := 3) scFirst.nd rfl (.inl rfl)) pgs_nil)))
        (pss_one (ps_if (pt_not (pt_chain op_le op_lt pe_int (pv 3) (pe_glob (v := .int G30) rfl mG ⟨_, rfl⟩))) pss_never pss_nil)))
      (pss_one (ps_ret pe_non))), ?_⟩
    refine ⟨.ref a, rfl, a, _, rfl, .inr (SqT.of hA), .int (m : Int), rfl, rfl, _, rfl, ?_⟩
    rw [List.length_map, hl, decide_eq_true rfl]
    refine iteF ⟨.ref a, rfl, a, _, rfl, SqT.of hA, ?_⟩
    refine ⟨fun i mm σ H' => i + mm = row.length ∧ Same H H' ∧ (∃ y2 y3, σ = [some (.ref a), some (.int (m : Int)), y2, y3]), ⟨row.length, by omega, Same.refl _, ⟨none, none, rfl⟩⟩, fun i mm σ H' hW => ?_⟩
    obtain ⟨em, sm, ⟨y2, y3, rfl⟩⟩ := hW
    have sA : SqT K H' a (row.map V.int) := SqT.of (hA.same sm)
    by_cases hi : i < row.length
    · have hri : row[i]? = some row[i] := List.getElem?_eq_getElem hi
      have g1 : (row.map V.int)[i]? = some (.int row[i]) := by rw [List.getElem?_map, hri]; rfl
      refine .inr ⟨⟨_, _, sA, g1⟩, fun σ' H2 => Same H H2 ∧ (∃ y2 y3, σ' = [some (.ref a), some (.int (m : Int)), y2, y3]), fun σ' H2 hN => ⟨mm - 1, by omega, by omega, hN⟩, fun x H2 hy => ?_⟩
      obtain ⟨T2, x2, rfl, nT, rfl, f2⟩ := hy
      have ex2 : x2 = .int row[i] := Option.some.inj ((f2 _ sA).symm.trans g1)
      subst ex2
      have s3 : Same H (upd H' T2 (.tup [.int (i : Nat), .int row[i]])) := sm.trans (same_new nT)
      refine ⟨T2, _, rfl, SqT.of upd_same, rfl, _, _, rfl, _, _, rfl, rfl, ?_⟩
      refine ⟨.int row[i], rfl, 0, row[i], rfl, rfl, _, rfl, chainF (j := G30) (fun Q' hq => hq) ?_⟩
      rw [decide_eq_true (hb _ (List.mem_of_getElem? hri))]
      exact iteF ⟨s3, ⟨_, _, rfl⟩⟩
    · exact .inl ⟨⟨_, sA, by rw [List.length_map]; omega⟩, q H' sm⟩
def spLookBill0 : Sp := fun vs H Q _ => ∃ (p b : Addr) (as : List Addr) (ll : List (List Int)) (row : List Int), vs = [.ref p, .ref b] ∧ RowsAt H p as ll ∧ flaw ll = none ∧ IntsAt H b row ∧ row.length = width ll ∧ (∀ n ∈ row, 0 ≤ n ∧ n < G30) ∧ ∀ H', Same H H' → Q .non H'
theorem ok_lookBill0 {f : Addr} {fd : FuncData} (F : Fun K "look_bill" "look_bill" sLookBill f fd) (CF : Cal P w K mg base CX0 1 "first_wrong" ["row", "many"] spFirst0) (CG : Cal P w K mg base CX0 3 "goods_of" ["lot"] spGoods0) : FnOk P w K mg base CX0 4 f fd ["lot", "bill"] spLookBill0 := by
  obtain ⟨fF, fdF, GF, gF, kF, bF⟩ := CF.ex
  obtain ⟨fG, fdG, GG, gG, kG, bG⟩ := CG.ex
  refine F.ok scLB (fun vs H Q E h => ?_) (fun cdv A outer s H vs Q E hr h => ?_)
  · obtain ⟨p, b, as, ll, row, rfl, _⟩ := h
    rfl
  · obtain ⟨p, b, as, ll, row, rfl, hL, ef, hB, hl, hb, q⟩ := h
    have hok := flaw_ok ef
    refine ⟨_, pss_cons (ps_set (i := 2) scLB.nd rfl (.inl rfl) (pe_call GF (hr.mono (by decide)) (by rfl) gF kF bF .nil pass0 (pa_cons (pv 1) (pa_cons (pe_call GG hr (by rfl) gG kG bG .nil pass0 (pa_cons (pv 0) pa_nil)) pa_nil))))
      (pss_one (ps_if (pt_cmpR op_notN (pv 2) pe_non (nomark _)) pss_never pss_nil)), ?_⟩
    refine ⟨.ref b, rfl, .ref p, rfl, p, as, ll, rfl, hL, ef, fun H1 s1 => ?_⟩
    refine ⟨b, width ll, row, rfl, hB.same s1, hl, by omega, hb, fun H2 s2 => ?_⟩
    exact ⟨_, rfl, rfl, _, rfl, iteF (q H2 (s1.trans s2))⟩
def spBox0 : Sp := fun vs H Q _ => ∃ (b : Addr) (row : List Int), vs = [.ref b] ∧ IntsAt H b row ∧ row.length ≤ 100 ∧ (∀ n ∈ row, 0 ≤ n) ∧ boxI row ≤ 4000 ∧ Q .non H
theorem ok_box0 {f : Addr} {fd : FuncData} {k : Nat} (F : Fun K "look_box" "look_box" sBox f fd) (mB : ∃ t, mg "MOST_BOX" = some (.int 4000 t)) : FnOk P w K mg base CX0 (k + 1) f fd ["bill"] spBox0 := by
  obtain ⟨tB, mB⟩ := mB
  refine F.ok scBx (fun vs H Q E h => ?_) (fun cdv A outer s H vs Q E hr h => ?_)
  · obtain ⟨b, row, rfl, _⟩ := h
    rfl
  · obtain ⟨b, row, rfl, hB, hz, h0, hx, q⟩ := h
    refine ⟨_, (pss_cons (ps_set (i := 1) scBx.nd rfl (.inl rfl) pe_int)
      (pss_cons (ps_for PassesOwn.never rfl (pi_tup (pv 0)) (pg_name (i := 2) scBx.nd rfl (.inl rfl))
      (pss_one (ps_aug (i := 1) scBx.nd rfl (.inl rfl) (pe_op op_add (pv 2) pe_int) ip_mul)))
      (pss_one (ps_if (pt_cmpR op_gt (pv 1) (pe_glob (v := .int 4000) rfl mB ⟨_, rfl⟩) (nomark _)) pss_never pss_nil)))), ?_⟩
    refine ⟨.ref b, rfl, b, rfl, ⟨_, SqT.of hB⟩, ?_⟩
    refine for_it (walk_tup (K := K) (a := b) (xs := row.map V.int)) (fun i σ H2 => H2 = H ∧ ∃ y2, σ = [some (.ref b), some (.int (boxI (row.take i))), y2]) ⟨rfl, none, rfl⟩ (fun i σ H2 _ ⟨e, _⟩ => by rw [e]; exact SqT.of hB) (fun i x σ H2 H3 hi ⟨eH, y2, eσ⟩ ⟨eY, hx'⟩ => ?_) (fun σ H2 ⟨eH, y2, eσ⟩ => ?_)
    · subst eH eY eσ
      rw [List.length_map] at hi
      have hri : row[i]? = some row[i] := List.getElem?_eq_getElem hi
      have ex : x = .int row[i] := by
        rw [List.getElem?_map, hri] at hx'
        exact (Option.some.inj hx').symm
      subst ex
      have n0 := h0 _ (List.mem_of_getElem? hri)
      have bt := box_take (b := row) (i := i) h0
      refine ⟨_, rfl, _, rfl, row[i], 1, rfl, rfl, _, _, rfl, rfl, .inl ⟨by omega, by omega⟩, rfl, some (.int row[i]), ?_⟩
      have e : boxI (row.take (i + 1)) = boxI (row.take i) * (row[i] + 1) := by
        rw [List.take_add_one, hri]
        unfold boxI
        rw [List.foldl_append]
        rfl
      rw [e]
      rfl
    · subst eH eσ
      rw [List.length_map, List.take_length]
      refine ⟨_, rfl, _, _, rfl, rfl, _, rfl, ?_⟩
      rw [decide_eq_false (by omega)]
      exact iteF q
def spBoth0 : Sp := fun vs H Q _ => ∃ (p b : Addr) (as : List Addr) (ll : List (List Int)) (row : List Int), vs = [.ref p, .ref b] ∧ RowsAt H p as ll ∧ flaw ll = none ∧ IntsAt H b row ∧ row.length = width ll ∧ (∀ n ∈ row, 0 ≤ n ∧ n < G30) ∧ boxI row ≤ 4000 ∧ ∀ H', Same H H' → Q .non H'
theorem ok_both0 {f : Addr} {fd : FuncData} (F : Fun K "look_both" "look_both" sBoth f fd) (CL : Cal P w K mg base CX0 4 "look_bill" ["lot", "bill"] spLookBill0) (CB : Cal P w K mg base CX0 1 "look_box" ["bill"] spBox0) : FnOk P w K mg base CX0 5 f fd ["lot", "bill"] spBoth0 := by
  obtain ⟨fL, fdL, GL, gL, kL, bL⟩ := CL.ex
  obtain ⟨fB, fdB, GB, gB, kB, bB⟩ := CB.ex
  refine F.ok scBt (fun vs H Q E h => ?_) (fun cdv A outer s H vs Q E hr h => ?_)
  · obtain ⟨p, b, as, ll, row, rfl, _⟩ := h
    rfl
  · obtain ⟨p, b, as, ll, row, rfl, hL, ef, hB, hl, hb, hx, q⟩ := h
    have hok := flaw_ok ef
    refine ⟨_, pss_cons (ps_expr (pe_call GL hr (by rfl) gL kL bL .nil pass0 (pa_cons (pv 0) (pa_cons (pv 1) pa_nil)))) (pss_one (ps_expr (pe_call GB (hr.mono (by decide)) (by rfl) gB kB bB .nil pass0 (pa_cons (pv 1) pa_nil)))), ?_⟩
    refine ⟨.ref p, rfl, .ref b, rfl, p, b, as, ll, row, rfl, hL, ef, hB, hl, hb, fun H1 s1 => ?_⟩
    exact ⟨.ref b, rfl, b, row, rfl, hB.same s1, by omega, fun n hn => (hb n hn).1, hx, q H1 s1⟩
/-! ### less -/
theorem zipI_at {xs ys : List Int} {i : Nat} {x y : Int} (h1 : xs[i]? = some x) (h2 : ys[i]? = some y) : (xs.zip ys)[i]? = some (x, y) := by
  rw [List.getElem?_zip_eq_some]
  exact ⟨h1, h2⟩
def spLess : Sp := fun vs H Q _ => ∃ (a b : Addr) (xs ys : List Int) (k : Int), vs = [.ref a, .ref b, .int k] ∧ IntsAt H a xs ∧ IntsAt H b ys ∧ xs.length = ys.length ∧ xs.length ≤ 100 ∧ -1000 ≤ k ∧ k ≤ 1000 ∧ ∀ H' p, Same H H' → IntsAt H' p (subR xs ys k) → Q (.ref p) H'
theorem ok_less {f : Addr} {fd : FuncData} {k : Nat} {dvs : List V} (F : FunD K "less" "less" (defArgs sLess) (defBody sLess) (defScope sLess) dvs [] f fd) (B : Bl mg) (mz : mg "zip" = none) : FnOk P w K mg base CX0 (k + 1) f fd ["row", "other", "times"] spLess := by
  refine F.ok scLe (fun vs H Q E h => ?_) (fun cdv A outer s H vs Q E hr h => ?_)
  · obtain ⟨a, b, xs, ys, k, rfl, _⟩ := h
    rfl
  · obtain ⟨a, b, xs, ys, k, rfl, hA, hB, hl, hz, k1, k2, q⟩ := h
    refine ⟨_, pss_one (ps_ret (pe_callTy call_tuple_of (by rfl) B.tuple (by decide +kernel) (pa_cons (pe_lc (own := [("number", 3), ("taken", 4)]) (g := gTup K 2 (gCons (gName 3) (gCons (gName 4) gNil))) (tt := tYes) rfl scLe.nd (pi_zipA (by rfl) mz (pa_cons (pv 0) (pa_cons (pv 1) pa_nil)))
        (blkOk_by (own := [("number", 3), ("taken", 4)]) (N := ["row", "other", "times", "number", "taken"]) (sc := defScope sLess) (by decide +kernel)) (fun _ _ _ _ _ => (pg_tup rfl (pgs_cons (pg_name (i := 3) scLe.nd rfl (Or.inl rfl)) (pgs_cons (pg_name (i := 4) scLe.nd rfl (Or.inl rfl)) pgs_nil)))) (fun _ _ _ _ _ => pts_nil)
        (fun _ _ _ _ _ => (pe_op op_sub (pv 3) (pe_op op_mul (pv 2) (pv 4))))) pa_nil))), ?_⟩
    refine ⟨.ref a, rfl, .ref b, rfl, a, b, _, _, rfl, .inr ⟨SqT.of hA, SqT.of hB, fun D nD => ?_⟩⟩
    refine ⟨fun i m H' => i + m = xs.length ∧ Same H H' ∧ H' D = some (.lst ((((xs.zip ys).take i).map fun q => q.1 - k * q.2).map V.int)), ⟨xs.length, by omega, same_new nD, upd_same⟩, fun i m H' hW => ?_⟩
    obtain ⟨em, sm, hD⟩ := hW
    have sA : SqT K H' a (xs.map V.int) := SqT.of (hA.same sm)
    have sB : SqT K H' b (ys.map V.int) := SqT.of (hB.same sm)
    by_cases hi : i < xs.length
    · have hx : xs[i]? = some (xs[i]'hi) := List.getElem?_eq_getElem hi
      have hy : ys[i]? = some (ys[i]'(by omega)) := List.getElem?_eq_getElem (by omega)
      have g1 : (xs.map V.int)[i]? = some (.int (xs[i]'hi)) := by rw [List.getElem?_map, hx]; rfl
      have g2 : (ys.map V.int)[i]? = some (.int (ys[i]'(by omega))) := by rw [List.getElem?_map, hy]; rfl
      refine .inr ⟨⟨_, _, _, _, sA, sB, g1, g2⟩, fun H2 => Same H H2 ∧ H2 D = some (.lst ((((xs.zip ys).take (i + 1)).map fun q => q.1 - k * q.2).map V.int)), fun H2 hN => ⟨m - 1, by omega, by omega, hN⟩, fun x H2 hyy => ?_⟩
      obtain ⟨T, x1, x2, rfl, nT, rfl, f1, f2⟩ := hyy
      have ex1 := Option.some.inj ((f1 _ sA).symm.trans g1)
      have ex2 := Option.some.inj ((f2 _ sB).symm.trans g2)
      subst ex1 ex2
      have sT := same_new (o := .tup [V.int (xs[i]'hi), V.int (ys[i]'(by omega))]) nT
      refine ⟨T, _, rfl, SqT.of upd_same, rfl, _, _, rfl, _, _, rfl, rfl, rfl, yes (iteT ?_)⟩
      refine ⟨_, rfl, .int k, rfl, _, rfl, k, _, rfl, rfl, .inl ⟨by omega, by omega⟩, _, _, rfl, rfl, _, sT _ _ hD, ?_, same_late (sm.trans sT) nD, ?_⟩
      · rw [List.length_map, List.length_map]
        exact small1000 (Nat.le_trans (List.length_take_le _ _) (by omega))
      · rw [upd_same, List.take_add_one, zipI_at hx hy, List.map_append, List.map_append]
        rfl
    · refine .inl ⟨⟨_, _, sA, sB, .inl ?_⟩, ?_⟩
      · rw [List.length_map]
        omega
      · have e : (xs.zip ys).take i = xs.zip ys := List.take_of_length_le (by rw [List.length_zip]; omega)
        rw [e] at hD
        exact ⟨D, _, rfl, .inl ⟨SqL.of hD, fun t nt => q _ t (sm.trans (same_new nt)) upd_same⟩⟩
end
end HL

namespace HL
/-! ### the cells of a bill, in their order -/
/-- the cells by the first i amounts -/
def cellsI (b : List Int) : Nat → List (List Int)
  | 0 => [[]]
  | i + 1 => (cellsI b i).flatMap fun c => (List.range (b.getD i 0 + 1).toNat).map fun (p : Nat) => c ++ [(p : Int)]
def Bel : List Int → List Int → Prop
  | [], [] => True
  | x :: r, y :: b => (0 ≤ x ∧ x ≤ y) ∧ Bel r b
  | _, _ => False
def lx : List Int → List Int → Prop
  | x :: r, y :: s => x < y ∨ (x = y ∧ lx r s)
  | _, _ => False
theorem Bel.len : ∀ {r b : List Int}, Bel r b → r.length = b.length
  | [], [], _ => rfl
  | x :: r, y :: b, h => by rw [List.length_cons, List.length_cons, Bel.len h.2]
  | [], _ :: _, h => h.elim
  | _ :: _, [], h => h.elim
theorem Bel.nn : ∀ {r b : List Int}, Bel r b → ∀ n ∈ r, 0 ≤ n
  | [], [], _, n, hn => by cases hn
  | x :: r, y :: b, h, n, hn => by
    rcases List.mem_cons.mp hn with e | e
    · rw [e]; exact h.1.1
    · exact Bel.nn h.2 n e
  | [], _ :: _, h, _, _ => h.elim
  | _ :: _, [], h, _, _ => h.elim
theorem Bel.snoc {x a : Int} (h0 : 0 ≤ x) (h1 : x ≤ a) : ∀ {r b : List Int}, Bel r b → Bel (r ++ [x]) (b ++ [a])
  | [], [], _ => ⟨⟨h0, h1⟩, True.intro⟩
  | y :: r, z :: b, h => ⟨h.1, Bel.snoc h0 h1 h.2⟩
  | [], _ :: _, h => h.elim
  | _ :: _, [], h => h.elim
theorem Bel.unsnoc {a : Int} : ∀ {b r : List Int}, Bel r (b ++ [a]) → ∃ c x, r = c ++ [x] ∧ Bel c b ∧ 0 ≤ x ∧ x ≤ a
  | [], [x], h => ⟨[], x, rfl, True.intro, h.1.1, h.1.2⟩
  | [], x :: y :: r, h => h.2.elim
  | [], [], h => h.elim
  | z :: b, x :: r, h => by
    obtain ⟨c, y, e, h1, h2⟩ := Bel.unsnoc (b := b) h.2
    exact ⟨x :: c, y, by rw [e]; rfl, ⟨h.1, h1⟩, h2⟩
  | z :: b, [], h => h.elim
theorem Bel.self : ∀ {b : List Int}, (∀ n ∈ b, 0 ≤ n) → Bel b b
  | [], _ => True.intro
  | x :: b, h => ⟨⟨h x List.mem_cons_self, Int.le_refl _⟩, Bel.self fun n hn => h n (List.mem_cons_of_mem _ hn)⟩
theorem take_snoc {b : List Int} {i : Nat} (h : i < b.length) : b.take (i + 1) = b.take i ++ [b.getD i 0] := by
  rw [List.take_add_one, List.getElem?_eq_getElem h, List.getD_eq_getElem?_getD, List.getElem?_eq_getElem h]
  rfl
theorem cells_mem {b : List Int} (hb : ∀ n ∈ b, 0 ≤ n) : ∀ {i : Nat}, i ≤ b.length → ∀ r, r ∈ cellsI b i ↔ Bel r (b.take i)
  | 0, _, r => by
    rw [List.take_zero]
    show r ∈ [[]] ↔ _
    rw [List.mem_singleton]
    constructor
    · intro e
      rw [e]
      exact True.intro
    · intro h
      cases r with
      | nil => rfl
      | cons x r => exact h.elim
  | i + 1, hi, r => by
    have hg : 0 ≤ b.getD i 0 := by
      rw [List.getD_eq_getElem?_getD, List.getElem?_eq_getElem (show i < b.length by omega)]
      exact hb _ (List.getElem_mem _)
    rw [take_snoc (by omega)]
    show r ∈ (cellsI b i).flatMap _ ↔ _
    rw [List.mem_flatMap]
    constructor
    · rintro ⟨c, hc, hr⟩
      obtain ⟨p, hp, rfl⟩ := List.mem_map.mp hr
      have := List.mem_range.mp hp
      exact ((cells_mem hb (by omega) c).mp hc).snoc (by omega) (by omega)
    · intro h
      obtain ⟨c, x, rfl, h1, h2, h3⟩ := Bel.unsnoc h
      exact ⟨c, (cells_mem hb (by omega) c).mpr h1, List.mem_map.mpr ⟨x.toNat, List.mem_range.mpr (by omega), by rw [Int.toNat_of_nonneg h2]⟩⟩
theorem lx_app : ∀ {c c' d d' : List Int}, c.length = c'.length → lx c c' → lx (c ++ d) (c' ++ d')
  | x :: c, y :: c', d, d', e, h => by
    rcases h with h | ⟨h1, h2⟩
    · exact .inl h
    · exact .inr ⟨h1, lx_app (by simpa using e) h2⟩
  | [], [], _, _, _, h => h.elim
  | [], _ :: _, _, _, _, h => h.elim
  | _ :: _, [], _, _, _, h => h.elim
theorem lx_last {x y : Int} (h : x < y) : ∀ {c : List Int}, lx (c ++ [x]) (c ++ [y])
  | [] => .inl h
  | z :: c => .inr ⟨rfl, lx_last h⟩
theorem lx_asymm : ∀ {r s : List Int}, lx r s → lx s r → False
  | x :: r, y :: s, h, k => by
    rcases h with h | ⟨h1, h2⟩
    · rcases k with k | ⟨k1, _⟩
      · omega
      · omega
    · rcases k with k | ⟨_, k2⟩
      · omega
      · exact lx_asymm h2 k2
  | [], _, h, _ => h.elim
  | _ :: _, [], h, _ => h.elim
theorem lx_sub : ∀ {c h : List Int}, c.length = h.length → (∀ n ∈ h, 0 ≤ n) → (∃ n ∈ h, 0 < n) → lx (subR c h 1) c
  | [], [], _, _, ⟨n, hn, _⟩ => by cases hn
  | x :: c, y :: h, e, h0, ⟨n, hn, hp⟩ => by
    rw [subR_cons]
    have y0 := h0 y List.mem_cons_self
    by_cases z : 0 < y
    · exact .inl (by omega)
    · refine .inr ⟨by omega, lx_sub (by simpa using e) (fun m hm => h0 m (List.mem_cons_of_mem _ hm)) ⟨n, ?_, hp⟩⟩
      rcases List.mem_cons.mp hn with q | q
      · omega
      · exact q
  | [], _ :: _, e, _, _ => by simp at e
  | _ :: _, [], e, _, _ => by simp at e
theorem cells_len {b : List Int} : ∀ {i : Nat} {r : List Int}, r ∈ cellsI b i → r.length = i
  | 0, r, h => by rw [List.mem_singleton.mp h]; rfl
  | i + 1, r, h => by
    obtain ⟨c, hc, hr⟩ := List.mem_flatMap.mp h
    obtain ⟨p, _, rfl⟩ := List.mem_map.mp hr
    rw [List.length_append, cells_len hc]
    rfl
theorem cells_rise {b : List Int} : ∀ {i : Nat}, (cellsI b i).Pairwise lx
  | 0 => List.pairwise_singleton _ _
  | i + 1 => by
    show ((cellsI b i).flatMap _).Pairwise lx
    rw [List.pairwise_flatMap]
    refine ⟨fun c _ => ?_, (cells_rise (i := i)).imp_of_mem fun {c c'} hc hc' h x hx y hy => ?_⟩
    · rw [List.pairwise_map]
      exact (List.pairwise_lt_range).imp fun {p q} h => lx_last (by omega)
    · obtain ⟨p, _, rfl⟩ := List.mem_map.mp hx
      obtain ⟨q, _, rfl⟩ := List.mem_map.mp hy
      exact lx_app (by rw [cells_len hc, cells_len hc']) h
theorem flat_len {α β : Type} {f : α → List β} {n : Nat} : ∀ {l : List α}, (∀ x ∈ l, (f x).length = n) → (l.flatMap f).length = l.length * n
  | [], _ => by simp
  | x :: l, h => by
    rw [List.flatMap_cons, List.length_append, h x List.mem_cons_self, flat_len fun y hy => h y (List.mem_cons_of_mem _ hy), List.length_cons, Nat.add_mul]
    omega
theorem cells_many {b : List Int} {i : Nat} : (cellsI b (i + 1)).length = (cellsI b i).length * (b.getD i 0 + 1).toNat :=
  flat_len fun c _ => by rw [List.length_map, List.length_range]
theorem cells_head {b : List Int} (hb : ∀ n ∈ b, 0 ≤ n) : ∀ {i : Nat}, i ≤ b.length → (cellsI b i)[0]? = some (List.replicate i 0)
  | 0, _ => rfl
  | i + 1, hi => by
    have hg : 0 ≤ b.getD i 0 := by
      rw [List.getD_eq_getElem?_getD, List.getElem?_eq_getElem (show i < b.length by omega)]
      exact hb _ (List.getElem_mem _)
    have ih := cells_head hb (i := i) (by omega)
    show ((cellsI b i).flatMap _)[0]? = _
    cases e : cellsI b i with
    | nil => rw [e] at ih; cases ih
    | cons c cs =>
      rw [e] at ih
      cases Option.some.inj ih
      rw [List.flatMap_cons]
      obtain ⟨m, hm⟩ : ∃ m, (b.getD i 0 + 1).toNat = m + 1 := ⟨(b.getD i 0).toNat, by omega⟩
      rw [hm, List.range_succ_eq_map, List.map_cons, List.cons_append]
      show some (List.replicate i 0 ++ [((0 : Nat) : Int)]) = _
      rw [List.replicate_succ']
      rfl
/-- a cell less a kind stands ahead of it, where it is one -/
theorem cell_ahead {b : List Int} (hb : ∀ n ∈ b, 0 ≤ n) {i : Nat} {c h : List Int} (kh : Kd b.length h) (hc : (cellsI b b.length)[i]? = some c) (hn : nnB (subR c h 1) = true) : subR c h 1 ∈ (cellsI b b.length).take i := by
  have hcm := (cells_mem hb (Nat.le_refl _) c).mp (List.mem_of_getElem? hc)
  rw [List.take_length] at hcm
  have hl : c.length = h.length := by rw [hcm.len, kh.1]
  have below : ∀ {c b h : List Int}, Bel c b → c.length = h.length → (∀ n ∈ h, 0 ≤ n) → nnB (subR c h 1) = true → Bel (subR c h 1) b := by
    intro c
    induction c with
    | nil =>
      intro b h hb hl _ _
      cases b with
      | nil => exact True.intro
      | cons y b => exact hb.elim
    | cons x c ih =>
      intro b h hb hl h0 hn
      cases b with
      | nil => exact hb.elim
      | cons y b =>
        cases h with
        | nil => simp at hl
        | cons z h =>
          rw [subR_cons] at hn ⊢
          unfold nnB at hn
          rw [List.all_cons, Bool.and_eq_true] at hn
          have n1 := of_decide_eq_true hn.1
          have z0 := h0 z List.mem_cons_self
          exact ⟨⟨n1, by have := hb.1.2; omega⟩, ih hb.2 (by simpa using hl) (fun n hn' => h0 n (List.mem_cons_of_mem _ hn')) hn.2⟩
  have hm : subR c h 1 ∈ cellsI b b.length := (cells_mem hb (Nat.le_refl _) _).mpr (by rw [List.take_length]; exact below hcm hl kh.2.1 hn)
  have hlt := lx_sub hl kh.2.1 kh.2.2
  obtain ⟨j, hj, ej⟩ := List.mem_iff_getElem.mp hm
  obtain ⟨hi, ei⟩ := List.getElem?_eq_some_iff.mp hc
  have pw := List.pairwise_iff_getElem.mp (cells_rise (b := b) (i := b.length))
  by_cases c1 : j < i
  · exact List.mem_iff_getElem.mpr ⟨j, by rw [List.length_take]; omega, by rw [List.getElem_take]; exact ej⟩
  · exfalso
    by_cases c2 : j = i
    · subst c2
      have e : subR c h 1 = c := ej.symm.trans ei
      rw [e] at hlt
      exact lx_asymm hlt hlt
    · have := pw i j hi hj (by omega)
      rw [ei, ej] at this
      exact lx_asymm this hlt
end HL

namespace HL
open PySem PySem.Spec PyProof.Rows L2
open C8 (pss_cut)
abbrev NCe : List Str := ["bill", "cells", "amount", "cell", "part"]
theorem scCe : FnScope NCe ["bill"] (defScope sCells) := ⟨rfl, rfl, rfl, by decide +kernel, rfl, by decide +kernel, by decide +kernel⟩
/-- a list of rows in the heap -/
def CellsAt (H : Hp) (l : Addr) (cs : List (List Int)) : Prop := ∃ bs : List Addr, H l = some (.lst (bs.map V.ref)) ∧ Rows H bs cs
theorem CellsAt.same {H H' : Hp} {l : Addr} {cs : List (List Int)} (h : CellsAt H l cs) (s : Same H H') : CellsAt H' l cs := by
  obtain ⟨bs, h1, h2⟩ := h
  exact ⟨bs, s _ _ h1, h2.same s⟩
theorem Rows.lput {H : Hp} {D : Addr} {xs ys : List V} {bs : List Addr} {ll : List (List Int)} (R : Rows H bs ll) (hD : H D = some (.lst xs)) : Rows (upd H D (.lst ys)) bs ll := R.mono fun b zs e => by
  rw [upd_ne (ne_of e hD (fun z => by cases z))]
  exact e
theorem cells_box {b : List Int} (hb : ∀ n ∈ b, 0 ≤ n) : ∀ {i : Nat}, i ≤ b.length → ((cellsI b i).length : Int) = boxI (b.take i)
  | 0, _ => rfl
  | i + 1, hi => by
    have hg : 0 ≤ b.getD i 0 := by
      rw [List.getD_eq_getElem?_getD, List.getElem?_eq_getElem (show i < b.length by omega)]
      exact hb _ (List.getElem_mem _)
    rw [cells_many, take_snoc (by omega)]
    have ih := cells_box hb (i := i) (by omega)
    unfold boxI at ih ⊢
    rw [List.foldl_append, ← ih, Int.natCast_mul, Int.toNat_of_nonneg (by omega)]
    rfl
section
variable {P : Program} {w : World} {K : PySem.W.Frag} {mg : Str → Option Value} {base : Heap}
def spCells : Sp := fun vs H Q _ => ∃ (b : Addr) (row : List Int), vs = [.ref b] ∧ IntsAt H b row ∧ row.length ≤ 100 ∧ (∀ n ∈ row, 0 ≤ n) ∧ boxI row ≤ 4000 ∧ ∀ H' l, Same H H' → CellsAt H' l (cellsI row row.length) → Q (.ref l) H'
theorem small4000 {n : Nat} (h : n ≤ 4000) : n < sizeLine := Nat.lt_of_le_of_lt h (by decide)
theorem ok_cells {f : Addr} {fd : FuncData} {k : Nat} (F : Fun K "cells_of" "cells_of" sCells f fd) (B : Bl mg) : FnOk P w K mg base CX0 (k + 1) f fd ["bill"] spCells := by
  refine F.ok scCe (fun vs H Q E h => ?_) (fun cdv A outer s H vs Q E hr h => ?_)
  · obtain ⟨b, row, rfl, _⟩ := h
    rfl
  · obtain ⟨b, row, rfl, hB, hz, h0, hx, q⟩ := h
    refine ⟨_, (pss_cons (ps_set (i := 1) scCe.nd rfl (.inl rfl) (pe_lst (pa_cons (pe_tup pa_nil) pa_nil)))
      (pss_cons (ps_for PassesOwn.never rfl (pi_tup (pv 0)) (pg_name (i := 2) scCe.nd rfl (.inr rfl))
        (pss_one (ps_setLc2 (i := 1) (own := [("cell", 3), ("part", 4)]) (vs1 := [4]) (g := gName 3) (g1 := gName 4) (tt := tYes) (tt1 := tYes) rfl scCe.nd rfl rfl (sw_true rfl rfl rfl (by decide +kernel)) (pi_list (pv 1))
          (blkOk_by (own := [("cell", 3), ("part", 4)]) (N := NCe) (sc := defScope sCells) (by decide +kernel)) (by decide) (fun _ _ _ _ _ => pg_name (i := 3) scCe.nd rfl (Or.inl rfl)) (fun _ _ _ _ _ => pts_nil)
          (fun _ _ _ _ _ => pi_range1 (by rfl) B.range (pa_cons (pe_op op_add (pv 2) pe_int) pa_nil)) (fun _ _ _ _ _ => pg_name (i := 4) scCe.nd rfl (Or.inl rfl)) (fun _ _ _ _ _ => pts_nil)
          (fun _ _ _ _ _ => pe_op (r := rCatA K) op_catA (pv 3) (pe_tup (pa_cons (pv 4) pa_nil))))))
      (pss_one (ps_ret (pv 1))))), ?_⟩
    refine ⟨Nat.zero_le _, fun t0 nt0 => ⟨sz_1 _, fun l0 nl0 => ?_⟩⟩
    have s0 := (same_new (o := .tup []) nt0).trans (same_new (o := .lst [.ref t0]) nl0)
    refine ⟨.ref b, rfl, b, rfl, ⟨_, SqT.of (hB.same s0)⟩, ?_⟩
    refine for_it (walk_tup (K := K) (a := b) (xs := row.map V.int)) (fun i σ H2 => Same H H2 ∧ ∃ l y2, σ = [some (.ref b), some (.ref l), y2, none, none] ∧ CellsAt H2 l (cellsI row i))
      ⟨s0, l0, none, rfl, [t0], upd_same, ⟨(same_new nl0) _ _ upd_same, True.intro⟩⟩ (fun i σ H2 _ ⟨s2, _⟩ => SqT.of (hB.same s2)) (fun i x σ H2 H3 hi ⟨s2, l, y2, eσ, bs, hl, hR⟩ ⟨eY, hx'⟩ => ?_) (fun σ H2 ⟨s2, l, y2, eσ, hC⟩ => ?_)
    · subst eY eσ
      rw [List.length_map] at hi
      have hri : row[i]? = some row[i] := List.getElem?_eq_getElem hi
      have ex : x = .int row[i] := by
        rw [List.getElem?_map, hri] at hx'
        exact (Option.some.inj hx').symm
      subst ex
      have n0 := h0 _ (List.mem_of_getElem? hri)
      have eg : row.getD i 0 = row[i] := by rw [List.getD_eq_getElem?_getD, hri]; rfl
      have hbl := hR.len
      have big := cells_box h0 (i := i + 1) (by omega)
      have bt := box_take (b := row) (i := i + 1) h0
      have hmany := cells_many (b := row) (i := i)
      rw [eg] at hmany
      have hrow : row[i] + 1 ≤ 4000 := by
        have h1 : 1 ≤ (cellsI row i).length := by
          have := cells_head h0 (i := i) (by omega)
          cases e : cellsI row i with
          | nil => rw [e] at this; cases this
          | cons c cs => simp
        have h2 : (row[i] + 1).toNat ≤ (cellsI row i).length * (row[i] + 1).toNat := Nat.le_mul_of_pos_left _ (by omega)
        omega
      refine ⟨.ref l, rfl, l, rfl, ⟨_, SqL.of hl⟩, fun D nD => ?_⟩
      have cell : ∀ c : List Int, ∀ j, ((List.range j).map fun (p : Nat) => c ++ [(p : Int)]).length = j := fun c j => by rw [List.length_map, List.length_range]
      -- what is made by the first cells, and by some parts of the next one
      let G : Nat → List (List Int) := fun a => ((cellsI row i).take a).flatMap fun c => (List.range (row[i] + 1).toNat).map fun (p : Nat) => c ++ [(p : Int)]
      have hG : ∀ a, (G a).length ≤ (cellsI row i).length * (row[i] + 1).toNat := fun a => by
        show (((cellsI row i).take a).flatMap _).length ≤ _
        rw [flat_len (n := (row[i] + 1).toNat) fun c _ => cell c _]
        exact Nat.mul_le_mul_right _ (by rw [List.length_take]; omega)
      have mk : ∀ (H4 H5 : Hp) (acc : List (List Int)) (cc : List Int) (cb : Addr) (p : Nat), Same H3 H4 → (∃ ds : List Addr, H4 D = some (.lst (ds.map V.ref)) ∧ Rows H4 ds acc) → acc.length < 4000 → Same H4 H5 → IntsAt H5 cb cc →
          ∃ ac, H5 D = some (.lst ac) ∧ ac.length < sizeLine ∧ Same H3 (upd H5 D (.lst (ac ++ [.ref cb]))) ∧ ∃ ds : List Addr, upd H5 D (.lst (ac ++ [.ref cb])) D = some (.lst (ds.map V.ref)) ∧ Rows (upd H5 D (.lst (ac ++ [.ref cb]))) ds (acc ++ [cc]) := fun H4 H5 acc cc cb p s34 ⟨ds, hd, hdr⟩ hsm s45 hcb => by
        have hd5 := s45 _ _ hd
        refine ⟨_, hd5, ?_, same_late (s34.trans s45) nD, ds ++ [cb], ?_, ?_⟩
        · rw [List.length_map, hdr.len]
          exact small4000 (by omega)
        · rw [upd_same, List.map_append]
          rfl
        · exact ((hdr.same s45).lput hd5).app ⟨by rw [upd_ne (ne_of hcb hd5 (fun z => by cases z))]; exact hcb, True.intro⟩
      refine ⟨fun a m H4 => a + m = bs.length ∧ Same H3 H4 ∧ ∃ ds : List Addr, H4 D = some (.lst (ds.map V.ref)) ∧ Rows H4 ds (G a), ⟨bs.length, by omega, same_new nD, [], upd_same, True.intro⟩, fun a m H4 hW => ?_⟩
      obtain ⟨em, s4, hds⟩ := hW
      by_cases ha : a < bs.length
      · have hba : bs[a]? = some (bs[a]'ha) := List.getElem?_eq_getElem ha
        obtain ⟨c, hc1, hc2⟩ := hR.at hba
        have hli : H4 l = some (.lst (bs.map V.ref)) := s4 _ _ hl
        have g1 : (bs.map V.ref)[a]? = some (.ref (bs[a]'ha)) := by rw [List.getElem?_map, hba]; rfl
        refine .inr ⟨⟨_, _, SqL.of hli, g1⟩, fun H5 => Same H3 H5 ∧ ∃ ds : List Addr, H5 D = some (.lst (ds.map V.ref)) ∧ Rows H5 ds (G (a + 1)), fun H5 hN => ⟨m - 1, by omega, by omega, hN⟩, fun x H5 hy => ?_⟩
        obtain ⟨e5, f5⟩ := hy
        subst e5
        have exx : x = .ref (bs[a]'ha) := Option.some.inj ((f5 _ (SqL.of hli)).symm.trans g1)
        subst exx
        have eG : ∀ z : Nat, z ≤ (row[i] + 1).toNat → (G a ++ (List.range z).map fun (p : Nat) => c ++ [(p : Int)]).length ≤ (cellsI row i).length * (row[i] + 1).toNat := fun z hz' => by
          rw [List.length_append, cell]
          show (((cellsI row i).take a).flatMap _).length + z ≤ _
          rw [flat_len (n := (row[i] + 1).toNat) fun c _ => cell c _, List.length_take, Nat.min_eq_left (by omega)]
          have : (a + 1) * (row[i] + 1).toNat ≤ (cellsI row i).length * (row[i] + 1).toNat := Nat.mul_le_mul_right _ (by omega)
          rw [Nat.add_mul] at this
          omega
        refine ⟨rfl, yes (iteT ?_)⟩
        refine ⟨.int row[i], rfl, row[i], 1, rfl, rfl, _, rfl, by omega, by omega, ?_⟩
        refine ⟨fun j mm H6 => j + mm = (row[i] + 1).toNat ∧ Same H3 H6 ∧ ∃ ds : List Addr, H6 D = some (.lst (ds.map V.ref)) ∧ Rows H6 ds (G a ++ (List.range j).map fun (p : Nat) => c ++ [(p : Int)]), ⟨(row[i] + 1).toNat, by omega, s4, by simpa using hds⟩, fun j mm H6 hW => ?_⟩
        obtain ⟨em6, s6, hds6⟩ := hW
        by_cases hj : j < (row[i] + 1).toNat
        · refine .inr ⟨hj, fun H7 => Same H3 H7 ∧ ∃ ds : List Addr, H7 D = some (.lst (ds.map V.ref)) ∧ Rows H7 ds (G a ++ (List.range (j + 1)).map fun (p : Nat) => c ++ [(p : Int)]), fun H7 hN => ⟨mm - 1, by omega, by omega, hN⟩, fun x H7 hy => ?_⟩
          obtain ⟨e7, ex7⟩ := hy
          subst e7 ex7
          have ez : (0 : Int) + (j : Nat) = ((j : Nat) : Int) := by omega
          rw [ez]
          refine ⟨rfl, yes (iteT ?_)⟩
          refine ⟨.ref (bs[a]'ha), rfl, .int (j : Nat), rfl, sz_1 _, fun t nt => ?_⟩
          have st := same_new (o := .tup [.int (j : Nat)]) nt
          have hcc : IntsAt H7 (bs[a]'ha) c := s6 _ _ hc2
          have hcl : c.length ≤ 100 := by rw [cells_len (List.mem_of_getElem? hc1)]; omega
          refine cat_ints (ys := [(j : Int)]) (hcc.same st) (show IntsAt _ t [(j : Int)] from upd_same) (by rw [List.length_singleton]; omega) fun z H8 s8 hz8 => ?_
          obtain ⟨ac, m1, m2, m3, ds, m4, m5⟩ := mk H7 H8 _ (c ++ [(j : Int)]) z j s6 hds6 (by
            have := eG (j + 1) hj
            rw [List.range_succ, List.map_append, ← List.append_assoc, List.length_append] at this
            have e1 : ([j].map fun (p : Nat) => c ++ [(p : Int)]).length = 1 := rfl
            omega) (st.trans s8) hz8
          refine ⟨ac, m1, m2, m3, ds, m4, ?_⟩
          rw [List.range_succ, List.map_append, ← List.append_assoc]
          exact m5
        · refine .inl ⟨show (row[i] + 1).toNat ≤ j by omega, s6, ?_⟩
          have ej : j = (row[i] + 1).toNat := by omega
          obtain ⟨ds, d1, d2⟩ := hds6
          refine ⟨ds, d1, ?_⟩
          have e2 : G (a + 1) = G a ++ (List.range j).map fun (p : Nat) => c ++ [(p : Int)] := by
            show ((cellsI row i).take (a + 1)).flatMap _ = ((cellsI row i).take a).flatMap _ ++ _
            rw [List.take_add_one, hc1, List.flatMap_append, ej]
            simp
          rw [e2]
          exact d2
      · refine .inl ⟨⟨_, SqL.of (s4 _ _ hl), by rw [List.length_map]; omega⟩, s2.trans s4, D, _, rfl, ?_⟩
        obtain ⟨ds, d1, d2⟩ := hds
        refine ⟨ds, d1, ?_⟩
        have e2 : G a = cellsI row (i + 1) := by
          show ((cellsI row i).take a).flatMap _ = (cellsI row i).flatMap _
          rw [List.take_of_length_le (by omega), eg]
        rw [← e2]
        exact d2
    · subst eσ
      rw [List.length_map] at hC
      exact ⟨.ref l, rfl, q H2 l s2 hC⟩
end
end HL

namespace HL
open PySem PySem.Spec PyProof.Rows L2
open C8 (pss_cut)
theorem scOm : FnScope ["cells", "table", "hold", "fuller", "cell", "many"] ["cells", "table", "hold"] (defScope sOneMore) := ⟨rfl, rfl, rfl, by decide +kernel, rfl, by decide +kernel, by decide +kernel⟩
theorem scTb : FnScope ["lot", "bill", "cells", "tables", "hold"] ["lot", "bill"] (defScope sTables) := ⟨rfl, rfl, rfl, by decide +kernel, rfl, by decide +kernel, by decide +kernel⟩
theorem scHm : FnScope ["lot", "bill"] ["lot", "bill"] (defScope sHowMany) := ⟨rfl, rfl, rfl, by decide +kernel, rfl, by decide +kernel, by decide +kernel⟩
/-- a row as a key -/
def kI (r : List Int) : List Key := r.map Sum.inl
theorem kI_V (r : List Int) : (kI r).map kV = r.map V.int := by
  unfold kI
  rw [List.map_map]
  rfl
theorem kI_inj : ∀ {r s : List Int}, kI r = kI s → r = s
  | [], [], _ => rfl
  | x :: r, y :: s, h => by
    have h' : (Sum.inl x :: kI r : List Key) = Sum.inl y :: kI s := h
    obtain ⟨h1, h2⟩ := List.cons.inj h'
    rw [Sum.inl.inj h1, kI_inj h2]
  | [], _ :: _, h => by cases h
  | _ :: _, [], h => by cases h
/-- a table: of the rows of S, how many ways there are by the kinds of l, where there are any -/
def TabIs (kvs : List (List Key × V)) (S : List (List Int)) (l : List (List Int)) : Prop := ∀ r : List Int, valV kvs (kI r) = if r ∈ S ∧ 0 < cnt l r then some (V.int (cnt l r : Nat)) else none
theorem TabIs.get {kvs : List (List Key × V)} {S l : List (List Int)} {r : List Int} (h : TabIs kvs S l) (hr : r ∈ S ∨ cnt l r = 0) : (valV kvs (kI r)).getD (V.int 0) = V.int (cnt l r : Nat) := by
  rw [h r]
  by_cases c : r ∈ S ∧ 0 < cnt l r
  · rw [if_pos c]
    rfl
  · rw [if_neg c]
    have : cnt l r = 0 := by
      rcases hr with hr | hr
      · by_cases z : 0 < cnt l r
        · exact absurd ⟨hr, z⟩ c
        · omega
      · exact hr
    rw [this]
    rfl
theorem TabIs.more {kvs : List (List Key × V)} {S l : List (List Int)} {c : List Int} (h : TabIs kvs S l) (hc : c ∉ S) (hp : 0 < cnt l c) : TabIs (putK kvs (kI c) (V.int (cnt l c : Nat))) (S ++ [c]) l := fun r => by
  rw [valV_put]
  by_cases e : r = c
  · subst e
    rw [if_pos rfl, if_pos ⟨List.mem_append_right _ List.mem_cons_self, hp⟩]
  · rw [if_neg (fun z => e (kI_inj z)), h r]
    have : (r ∈ S ++ [c]) ↔ r ∈ S := by
      rw [List.mem_append, List.mem_singleton]
      exact ⟨fun q => q.elim id fun z => absurd z e, .inl⟩
    by_cases q : r ∈ S ∧ 0 < cnt l r
    · rw [if_pos q, if_pos ⟨this.mpr q.1, q.2⟩]
    · rw [if_neg q, if_neg fun z => q ⟨this.mp z.1, z.2⟩]
theorem TabIs.skip {kvs : List (List Key × V)} {S l : List (List Int)} {c : List Int} (h : TabIs kvs S l) (hp : cnt l c = 0) : TabIs kvs (S ++ [c]) l := fun r => by
  rw [h r]
  by_cases e : r = c
  · subst e
    rw [if_neg (fun z => by omega), if_neg (fun z => by omega)]
  · have : (r ∈ S ++ [c]) ↔ r ∈ S := by
      rw [List.mem_append, List.mem_singleton]
      exact ⟨fun q => q.elim id fun z => absurd z e, .inl⟩
    by_cases q : r ∈ S ∧ 0 < cnt l r
    · rw [if_pos q, if_pos ⟨this.mpr q.1, q.2⟩]
    · rw [if_neg q, if_neg fun z => q ⟨this.mp z.1, z.2⟩]
theorem TabIs.first {S : List (List Int)} {g : Nat} (hS : ∀ r ∈ S, r.length = g) (h0 : List.replicate g 0 ∈ S) : TabIs [(kI (List.replicate g 0), V.int 1)] S [] := fun r => by
  have ev : valV [(kI (List.replicate g 0), V.int 1)] (kI r) = if kI r = kI (List.replicate g 0) then some (V.int 1) else none := by
    have := valV_put ([] : List (List Key × V)) (kI (List.replicate g 0)) (kI r) (V.int 1)
    rw [valV_nil] at this
    exact this
  rw [ev]
  by_cases e : r = List.replicate g 0
  · subst e
    have hz : cnt [] (List.replicate g (0 : Int)) = 1 := by
      unfold cnt
      rw [if_pos (zeroB_iff.mpr fun n hn => List.eq_of_mem_replicate hn)]
    rw [if_pos rfl, if_pos ⟨h0, by rw [hz]; decide⟩, hz]
    rfl
  · rw [if_neg (fun z => e (kI_inj z)), if_neg]
    rintro ⟨h1, h2⟩
    refine e ?_
    have hz : zeroB r = true := by
      unfold cnt at h2
      by_cases z : zeroB r = true
      · exact z
      · rw [if_neg z] at h2
        cases h2
    exact List.eq_replicate_iff.mpr ⟨hS r h1, zeroB_iff.mp hz⟩
/-- the dict of a table in the heap -/
def TabAt (H : Hp) (d : Addr) (S l : List (List Int)) : Prop := ∃ kvs, H d = some (.dT kvs) ∧ TabIs kvs S l
theorem TabAt.same {H H' : Hp} {d : Addr} {S l : List (List Int)} (h : TabAt H d S l) (s : Same H H') : TabAt H' d S l := by
  obtain ⟨kvs, h1, h2⟩ := h
  exact ⟨kvs, s _ _ h1, h2⟩
/-- a bill whose cells are counted -/
structure BoxOk (b : List Int) : Prop where
  nn : ∀ n ∈ b, 0 ≤ n
  few : b.length ≤ 100
  box : boxI b ≤ 4000
abbrev cellsB (b : List Int) : List (List Int) := cellsI b b.length
theorem BoxOk.many {b : List Int} (h : BoxOk b) : (cellsB b).length ≤ 4000 := by
  have := cells_box h.nn (i := b.length) (Nat.le_refl _)
  rw [List.take_length] at this
  have := h.box
  show (cellsI b b.length).length ≤ 4000
  omega
theorem BoxOk.nodup {b : List Int} {i : Nat} {c : List Int} (hc : (cellsB b)[i]? = some c) : c ∉ (cellsB b).take i := fun hm => by
  obtain ⟨j, hj, ej⟩ := List.mem_iff_getElem.mp hm
  rw [List.length_take] at hj
  rw [List.getElem_take] at ej
  obtain ⟨hi, ei⟩ := List.getElem?_eq_some_iff.mp hc
  have hj' : j < min i (cellsI b b.length).length := hj
  have hi' : i < (cellsI b b.length).length := hi
  have := List.pairwise_iff_getElem.mp (cells_rise (b := b) (i := b.length)) j i (by omega) hi' (by omega)
  rw [ej, ei] at this
  exact lx_asymm this this
section
variable {P : Program} {w : World} {K : PySem.W.Frag} {mg : Str → Option Value} {base : Heap}
/-- less, with its default -/
def CalLess (P : Program) (w : World) (K : PySem.W.Frag) (mg : Str → Option Value) (base : Heap) : Prop := ∃ (f : Addr) (fd : FuncData) (t : Tok), FnOk P w K mg base CX0 1 f fd ["row", "other", "times"] spLess ∧ mg "less" = some (.ref f) ∧ PySem.W.keepIn K (.ref f) = true ∧ Binds K fd ["row", "other", "times"] [.int 1 t]
def spOneMore : Sp := fun vs H Q _ => ∃ (l d hd : Addr) (b h : List Int) (t : List (List Int)), vs = [.ref l, .ref d, .ref hd] ∧ BoxOk b ∧ CellsAt H l (cellsB b) ∧ TabAt H d (cellsB b) t ∧ IntsAt H hd h ∧ (∀ x ∈ h :: t, Kd b.length x) ∧
  ∀ H' d', Same H H' → TabAt H' d' (cellsB b) (h :: t) → Q (.ref d') H'
theorem ok_oneMore {f : Addr} {fd : FuncData} (F : Fun K "with_one_more" "with_one_more" sOneMore f fd) (CLe : CalLess P w K mg base) : FnOk P w K mg base CX0 2 f fd ["cells", "table", "hold"] spOneMore := by
  obtain ⟨fL, fdL, tL, GL, gL, kL, bL⟩ := CLe
  have vd : Vals [V.int 1] [Value.int 1 tL] := .cons ⟨_, rfl⟩ .nil
  refine F.ok scOm (fun vs H Q E h => ?_) (fun cdv A outer s H vs Q E hr h => ?_)
  · obtain ⟨l, d, hd, b, h, t, rfl, _⟩ := h
    rfl
  · obtain ⟨l, d, hd, b, h, t, rfl, bo, ⟨bs, hl, hR⟩, ⟨kvs0, hd0, T0⟩, hH, hk, q⟩ := h
    have hu := hu_of hr
    refine ⟨_, (pss_cons (ps_set (i := 3) scOm.nd rfl (.inl rfl) pe_dnewT)
      (pss_cons (ps_for PassesOwn.never rfl (pi_list (pv 0)) (pg_name (i := 4) scOm.nd rfl (.inl rfl))
        (pss_cons (ps_set (i := 5) scOm.nd rfl (.inl rfl) (pe_op op_add (pe_dget2 hu (pv 1) (pv 4) pe_int ⟨rfl, rfl, rfl, rfl⟩) (pe_dget2 hu (pv 3) (pe_call GL hr (by rfl) gL kL bL vd pass0 (pa_cons (pv 4) (pa_cons (pv 2) pa_nil))) pe_int ⟨rfl, rfl, rfl, rfl⟩)))
        (pss_one (ps_if (pt_cmpR op_gt (pv 5) pe_int (nomark _)) (pss_one (ps_dput hu (pv 3) (pv 4) (pv 5) rfl)) pss_nil))))
      (pss_one (ps_ret (pv 3))))), ?_⟩
    have kh := hk h List.mem_cons_self
    have hkt : ∀ x ∈ t, Kd b.length x := fun x hx => hk x (List.mem_cons_of_mem _ hx)
    have hlen := hR.len
    have hmany := bo.many
    intro D nD
    have sD := same_new (o := .dT []) nD
    refine ⟨.ref l, rfl, l, rfl, ⟨_, SqL.of (sD _ _ hl)⟩, ?_⟩
    refine for_list (K := K) (a := l) (xs := bs.map V.ref) (fun i σ H' => Same H H' ∧ (∃ y4 y5, σ = [some (.ref l), some (.ref d), some (.ref hd), some (.ref D), y4, y5]) ∧ ∃ kvs, H' D = some (.dT kvs) ∧ kvs.length ≤ i ∧ TabIs kvs ((cellsB b).take i) (h :: t))
      ⟨sD, ⟨none, none, rfl⟩, [], upd_same, Nat.zero_le _, fun r => by rw [List.take_zero, valV_nil, if_neg (fun z => by cases z.1)]⟩ (fun i σ H' _ hI => SqL.of (hI.1 _ _ hl)) (fun i x σ H' hx hI => ?_) (fun σ H' hI => ?_)
    · obtain ⟨sm, ⟨y4, y5, rfl⟩, kvs, hD, hkl, TI⟩ := hI
      obtain ⟨cb, hcb, rfl⟩ : ∃ n, bs[i]? = some n ∧ x = V.ref n := by
        rw [List.getElem?_map] at hx
        cases e : bs[i]? with
        | none => rw [e] at hx; cases hx
        | some n => rw [e] at hx; exact ⟨n, rfl, (Option.some.inj hx).symm⟩
      obtain ⟨c, hc1, hc2⟩ := hR.at hcb
      have hil : i < (cellsB b).length := (List.getElem?_eq_some_iff.mp hc1).1
      have hcm : c ∈ cellsB b := List.mem_of_getElem? hc1
      have hcl : c.length = b.length := cells_len hcm
      have hclh : c.length = h.length := by rw [hcl, kh.1]
      have hcb' : H' cb = some (.tup ((kI c).map kV)) := by rw [kI_V]; exact sm _ _ hc2
      refine ⟨.ref d, rfl, d, rfl, .inr ⟨_, .inl (sm _ _ hd0)⟩, .ref cb, rfl, _, DGet.t (sm _ _ hd0) hcb', ?_⟩
      rw [T0.get (.inl hcm)]
      refine ⟨.ref D, rfl, D, rfl, .inr ⟨_, .inl hD⟩, .ref cb, rfl, .ref hd, rfl, cb, hd, c, h, 1, rfl, sm _ _ hc2, sm _ _ hH, hclh, by rw [hcl]; exact bo.few, by decide, by decide, fun H2 z s2 hz => ?_⟩
      have hz' : H2 z = some (.tup ((kI (subR c h 1)).map kV)) := by rw [kI_V]; exact hz
      refine ⟨_, DGet.t (s2 _ _ hD) hz', ?_⟩
      have inS : subR c h 1 ∈ (cellsB b).take i ∨ cnt (h :: t) (subR c h 1) = 0 := by
        cases e : nnB (subR c h 1) with
        | true => exact .inl (cell_ahead bo.nn kh hc1 e)
        | false => exact .inr (cnt_neg hk (by rw [subR_len hclh, hcl]) e)
      rw [TI.get inS]
      have es : (cnt t c : Int) + (cnt (h :: t) (subR c h 1) : Int) = (cnt (h :: t) c : Int) := by
        rw [cnt_step hk hcl]
        omega
      refine ⟨_, _, rfl, rfl, ?_⟩
      refine ⟨_, rfl, (cnt t c : Int) + (cnt (h :: t) (subR c h 1) : Int), 0, rfl, rfl, _, rfl, ?_⟩
      rw [es]
      have etk : (cellsB b).take (i + 1) = (cellsB b).take i ++ [c] := by rw [List.take_add_one, hc1]; rfl
      refine ite2 (fun p1 => ?_) (fun p1 => ?_)
      · have p1' : 0 < cnt (h :: t) c := by
          have := of_decide_eq_true p1
          omega
        refine ⟨_, rfl, .ref D, rfl, .ref cb, rfl, D, _, rfl, DPut.t (s2 _ _ hD) (s2 _ _ hcb') (Nat.lt_of_le_of_lt hkl (small4000 (by omega))), same_late (sm.trans s2) nD, ⟨_, _, rfl⟩, _, upd_same, Nat.le_trans (length_putK _ _ _) (by omega), ?_⟩
        rw [etk]
        have := TI.more (BoxOk.nodup hc1) p1'
        rw [← es] at this
        exact this
      · have p1' : cnt (h :: t) c = 0 := by
          by_cases z : 0 < cnt (h :: t) c
          · exact absurd (decide_eq_true (by omega)) p1
          · omega
        refine ⟨sm.trans s2, ⟨_, _, rfl⟩, kvs, s2 _ _ hD, by omega, ?_⟩
        rw [etk]
        exact TI.skip p1'
    · obtain ⟨sm, ⟨y4, y5, rfl⟩, kvs, hD, _, TI⟩ := hI
      rw [List.length_map, hlen, List.take_length] at TI
      exact ⟨.ref D, rfl, q H' D sm ⟨kvs, hD, TI⟩⟩
/-- for each kind, and behind all, its table -/
def TabsAt (H : Hp) (l : Addr) (S ll : List (List Int)) : Prop := ∃ ds : List Addr, H l = some (.lst (ds.map V.ref)) ∧ ds.length = ll.length + 1 ∧ ∀ (k : Nat) (d : Addr), ds[k]? = some d → TabAt H d S (ll.drop k)
def spTables : Sp := fun vs H Q _ => ∃ (p bl : Addr) (as : List Addr) (ll : List (List Int)) (b : List Int), vs = [.ref p, .ref bl] ∧ RowsAt H p as ll ∧ ll.length ≤ 100 ∧ IntsAt H bl b ∧ BoxOk b ∧ (∀ x ∈ ll, Kd b.length x) ∧ ∀ H' l, Same H H' → TabsAt H' l (cellsB b) ll → Q (.ref l) H'
theorem ok_tables {f : Addr} {fd : FuncData} (F : Fun K "tables_of" "tables_of" sTables f fd) (B : Bl mg) (mr : mg "reversed" = none) (CC : Cal P w K mg base CX0 1 "cells_of" ["bill"] spCells) (CO : Cal P w K mg base CX0 2 "with_one_more" ["cells", "table", "hold"] spOneMore) : FnOk P w K mg base CX0 3 f fd ["lot", "bill"] spTables := by
  obtain ⟨fC, fdC, GC, gC, kC, bC⟩ := CC.ex
  obtain ⟨fO, fdO, GO, gO, kO, bO⟩ := CO.ex
  refine F.ok scTb (fun vs H Q E h => ?_) (fun cdv A outer s H vs Q E hr h => ?_)
  · obtain ⟨p, bl, as, ll, b, rfl, _⟩ := h
    rfl
  · obtain ⟨p, bl, as, ll, b, rfl, R, hz, hB, bo, hk, q⟩ := h
    have hu := hu_of hr
    refine ⟨_, (pss_cons (ps_set (i := 2) scTb.nd rfl (.inl rfl) (pe_call GC (hr.mono (by decide)) (by rfl) gC kC bC .nil pass0 (pa_cons (pv 1) pa_nil)))
      (pss_cons (ps_set (i := 3) scTb.nd rfl (.inl rfl) (pe_lst (pa_cons (pe_disp1T hu (pe_ix ix_list (pv 2) pe_int (fun _ _ => rfl)) pe_int) pa_nil)))
      (pss_cons (ps_for PassesOwn.never rfl (RT.pi_revA (by rfl) mr (pv 0)) (pg_name (i := 4) scTb.nd rfl (.inl rfl))
        (pss_one (ps_expr (pe_bm PySem.F.plainAttrs_list PySem.F.slot_list_append PySem.F.type_list_append mt_append (pv 3) (pa_cons (pe_call GO hr (by rfl) gO kO bO .nil pass0 (pa_cons (pv 2) (pa_cons (pe_ix ix_list (pv 3) (pe_un un_neg pe_int) (fun _ _ => rfl)) (pa_cons (pv 4) pa_nil)))) pa_nil)))))
      (pss_one (ps_ret (pe_revL (pv 3))))))), ?_⟩
    have hlen := R.2.len
    refine ⟨.ref bl, rfl, bl, b, rfl, hB, bo.few, bo.nn, bo.box, fun H1 l s1 hC => ?_⟩
    obtain ⟨bs, hl, hbs⟩ := hC
    have hhd := cells_head bo.nn (i := b.length) (Nat.le_refl _)
    have hb0 : ∃ c0, bs[0]? = some c0 := by
      cases e : bs with
      | nil =>
        rw [e] at hbs
        cases e2 : cellsB b with
        | nil => rw [show cellsI b b.length = [] from e2] at hhd; cases hhd
        | cons c cs => rw [show cellsI b b.length = c :: cs from e2] at hbs; exact hbs.elim
      | cons c0 cs => exact ⟨c0, rfl⟩
    obtain ⟨c0, hc0⟩ := hb0
    obtain ⟨r0, hr1, hr2⟩ := hbs.at hc0
    have er0 : r0 = List.replicate b.length 0 := Option.some.inj (hr1.symm.trans hhd)
    subst er0
    intro D nD
    have sD := same_new (o := .dT []) nD
    have hc0' : (upd H1 D (.dT [])) c0 = some (.tup ((kI (List.replicate b.length 0)).map kV)) := by rw [kI_V]; exact sD _ _ hr2
    refine ⟨.ref l, rfl, l, _, 0, .ref c0, rfl, rfl, SqL.of (sD _ _ hl), atI_nat (j := 0) (by rw [List.getElem?_map, hc0]; rfl), kI (List.replicate b.length 0), c0, rfl, hc0', upd_same, ?_⟩
    refine ⟨sz_1 _, fun T nT => ?_⟩
    have nD0 : H D = none := s1.free nD
    have sE : Same H1 (upd (upd H1 D (.dT [])) D (.dT [(kI (List.replicate b.length 0), V.int 1)])) := same_late sD nD
    have sT := same_new (o := .lst [.ref D]) nT
    have s2 : Same H1 _ := sE.trans sT
    have nT1 : H1 T = none := sE.free nT
    have nT0 : H T = none := s1.free nT1
    have lT : l ≠ T := fun e => by rw [e, nT1] at hl; cases hl
    have tab0 : TabAt (upd (upd (upd H1 D (.dT [])) D (.dT [(kI (List.replicate b.length 0), V.int 1)])) T (.lst [.ref D])) D (cellsB b) [] := ⟨_, sT _ _ upd_same, TabIs.first (fun r hr => cells_len hr) (List.mem_of_getElem? hr1)⟩
    refine ⟨.ref p, rfl, p, as.map V.ref, rfl, .inr ⟨SqT.of ((R.same s1).same s2).1, ?_⟩⟩
    refine RT.for_ItvT (K := K) (a := p) (xs := as.map V.ref) (fun i σ H' => Same H1 H' ∧ (∃ y4, σ = [some (.ref p), some (.ref bl), some (.ref l), some (.ref T), y4]) ∧ ∃ (ts : List Addr) (z : Addr), H' T = some (.lst ((ts ++ [z]).map V.ref)) ∧ ts.length = i ∧ ∀ (k : Nat) (d : Addr), (ts ++ [z])[k]? = some d → TabAt H' d (cellsB b) (ll.drop (ll.length - k)))
      ⟨s2, ⟨none, rfl⟩, [], D, upd_same, rfl, fun k d hkd => ?_⟩ (fun i σ H' hI => SqT.of ((R.same s1).same hI.1).1) (fun i x σ H' hi hx hI => ?_) (fun σ H' hI => ?_)
    · match k, hkd with
      | 0, hkd =>
        cases Option.some.inj hkd
        rw [Nat.sub_zero, List.drop_length]
        exact tab0
      | k + 1, hkd => simp at hkd
    · obtain ⟨sm, ⟨y4, rfl⟩, ts, z, hT, htl, htab⟩ := hI
      rw [List.length_map] at hi hx
      have hj : as.length - 1 - i < as.length := by omega
      have haj : as[as.length - 1 - i]? = some (as[as.length - 1 - i]'hj) := List.getElem?_eq_getElem hj
      obtain ⟨h, hh1, hh2⟩ := R.2.at haj
      have ex : x = .ref (as[as.length - 1 - i]'hj) := by
        rw [List.getElem?_map, haj] at hx
        exact (Option.some.inj hx).symm
      subst ex
      have edr : ll.drop (ll.length - (i + 1)) = h :: ll.drop (ll.length - i) := by
        rw [List.drop_eq_getElem_cons (show ll.length - (i + 1) < ll.length by omega)]
        have e1 : ll.length - (i + 1) = as.length - 1 - i := by omega
        obtain ⟨q1, q2⟩ := List.getElem?_eq_some_iff.mp hh1
        congr 1
        · rw [← q2]
          congr 1
        · congr 1
          omega
      have hkk : ∀ x ∈ h :: ll.drop (ll.length - i), Kd b.length x := fun x hx => hk x (by rw [← edr] at hx; exact List.mem_of_mem_drop hx)
      have htz : TabAt H' z (cellsB b) (ll.drop (ll.length - i)) := htab i z (by rw [List.getElem?_append_right (by omega), htl, Nat.sub_self]; rfl)
      refine ⟨.ref T, rfl, .inl ⟨rfl, _, SqL.of hT⟩, .ref l, rfl, .ref T, rfl, 1, rfl, T, _, -1, .ref z, rfl, rfl, SqL.of hT, by rw [List.map_append]; exact atI_last _ _, .ref (as[as.length - 1 - i]'hj), rfl, l, z, _, b, h, _, rfl, bo, ⟨bs, sm _ _ hl, hbs.same sm⟩, htz, sm _ _ (s1 _ _ hh2), hkk, fun H2 d' s3 hd' => ?_⟩
      have hT2 := s3 _ _ hT
      have keep : ∀ (d : Addr) (l' : List (List Int)), TabAt H2 d (cellsB b) l' → TabAt (upd H2 T (.lst ((ts ++ [z]).map V.ref ++ [.ref d']))) d (cellsB b) l' := fun d l' ⟨kvs, k1, k2⟩ => ⟨kvs, by rw [upd_ne (ne_of k1 hT2 (fun z => by cases z))]; exact k1, k2⟩
      refine ⟨T, _, _, rfl, rfl, hT2, ?_, same_late (sm.trans s3) nT1, ⟨_, rfl⟩, ts ++ [z], d', ?_, ?_, fun k d hkd => ?_⟩
      · rw [List.length_map, List.length_append]
        exact small1000 (by show ts.length + 1 ≤ 1000; omega)
      · rw [upd_same, List.map_append (l₁ := ts ++ [z])]
        rfl
      · rw [List.length_append, htl]
        rfl
      · by_cases c : k < (ts ++ [z]).length
        · rw [List.getElem?_append_left c] at hkd
          exact keep d _ ((htab k d hkd).same s3)
        · rw [List.getElem?_append_right (by omega)] at hkd
          have ek : k = i + 1 := by
            rw [List.length_append] at c hkd
            have e1 : [z].length = 1 := rfl
            have : k - (ts.length + 1) < 1 := by
              have := (List.getElem?_eq_some_iff.mp hkd).1
              simpa using this
            omega
          subst ek
          have e0 : i + 1 - (ts ++ [z]).length = 0 := by
            rw [List.length_append, htl]
            exact Nat.sub_self _
          rw [e0] at hkd
          cases Option.some.inj hkd
          rw [edr]
          exact keep d' _ hd'
    · obtain ⟨sm, ⟨y4, rfl⟩, ts, z, hT, htl, htab⟩ := hI
      rw [List.length_map] at htl
      refine ⟨.ref T, rfl, T, _, rfl, SqL.of hT, fun l2 nl2 => ?_⟩
      refine q _ l2 (s1.trans (sm.trans (same_new nl2))) ⟨(ts ++ [z]).reverse, by rw [upd_same, List.map_reverse], by rw [List.length_reverse, List.length_append, htl, hlen]; rfl, fun k d hkd => ?_⟩
      have hkl := (List.getElem?_eq_some_iff.mp hkd).1
      rw [List.length_reverse, List.length_append] at hkl
      have e1 : [z].length = 1 := rfl
      rw [List.getElem?_reverse (by rw [List.length_append]; omega)] at hkd
      have := htab _ d hkd
      have ek : ll.length - ((ts ++ [z]).length - 1 - k) = k := by
        rw [List.length_append]
        omega
      rw [ek] at this
      exact this.same (same_new nl2)
def spHowMany : Sp := fun vs H Q _ => ∃ (p bl : Addr) (as : List Addr) (ll : List (List Int)) (b : List Int), vs = [.ref p, .ref bl] ∧ RowsAt H p as ll ∧ flaw ll = none ∧ IntsAt H bl b ∧ b.length = width ll ∧ (∀ n ∈ b, 0 ≤ n ∧ n < G30) ∧ boxI b ≤ 4000 ∧ ∀ H', Same H H' → Q (.int (cnt ll b : Nat)) H'
theorem flaw_kd {ll : List (List Int)} (h : flaw ll = none) : ∀ x ∈ ll, Kd (width ll) x := fun x hx => by
  obtain ⟨h1, h2, h3⟩ := okRow_iff.mp (okRow_all h x hx)
  exact ⟨h1, fun n hn => (h2 n hn).1, h3⟩
theorem ok_howMany {f : Addr} {fd : FuncData} (F : Fun K "how_many" "how_many" sHowMany f fd) (CB : Cal P w K mg base CX0 5 "look_both" ["lot", "bill"] spBoth0) (CT : Cal P w K mg base CX0 3 "tables_of" ["lot", "bill"] spTables) : FnOk P w K mg base CX0 6 f fd ["lot", "bill"] spHowMany := by
  obtain ⟨fB, fdB, GB, gB, kB, bB⟩ := CB.ex
  obtain ⟨fT, fdT, GT, gT, kT, bT⟩ := CT.ex
  refine F.ok scHm (fun vs H Q E h => ?_) (fun cdv A outer s H vs Q E hr h => ?_)
  · obtain ⟨p, bl, as, ll, b, rfl, _⟩ := h
    rfl
  · obtain ⟨p, bl, as, ll, b, rfl, R, ef, hB, hl, hb, hx, q⟩ := h
    have hu := hu_of hr
    have hok := flaw_ok ef
    refine ⟨_, pss_cons (ps_expr (pe_call GB hr (by rfl) gB kB bB .nil pass0 (pa_cons (pv 0) (pa_cons (pv 1) pa_nil))))
      (pss_one (ps_ret (pe_dget2 hu (pe_ix ix_list (pe_call GT (hr.mono (by decide)) (by rfl) gT kT bT .nil pass0 (pa_cons (pv 0) (pa_cons (pv 1) pa_nil))) pe_int (fun _ _ => rfl)) (pv 1) pe_int ⟨rfl, rfl, rfl, rfl⟩))), ?_⟩
    have bo : BoxOk b := ⟨fun n hn => (hb n hn).1, by omega, hx⟩
    have hkd : ∀ x ∈ ll, Kd b.length x := fun x hx => by
      rw [hl]
      exact flaw_kd ef x hx
    refine ⟨.ref p, rfl, .ref bl, rfl, p, bl, as, ll, b, rfl, R, ef, hB, hl, hb, hx, fun H1 s1 => ?_⟩
    refine ⟨.ref p, rfl, .ref bl, rfl, p, bl, as, ll, b, rfl, R.same s1, by omega, hB.same s1, bo, hkd, fun H2 l s2 ⟨ds, hd, hdl, htab⟩ => ?_⟩
    obtain ⟨d0, hd0⟩ : ∃ d0, ds[0]? = some d0 := ⟨ds[0]'(by omega), List.getElem?_eq_getElem (by omega)⟩
    obtain ⟨kvs, k1, k2⟩ := htab 0 d0 hd0
    refine ⟨l, _, 0, .ref d0, rfl, rfl, SqL.of hd, atI_nat (j := 0) (by rw [List.getElem?_map, hd0]; rfl), d0, rfl, .inr ⟨_, .inl k1⟩, .ref bl, rfl, _, DGet.t (k := kI b) k1 (by rw [kI_V]; exact (hB.same s1).same s2), ?_⟩
    have hm : b ∈ cellsB b := (cells_mem bo.nn (Nat.le_refl _) b).mpr (by rw [List.take_length]; exact Bel.self bo.nn)
    rw [k2.get (.inl hm)]
    exact q H2 (s1.trans s2)
end
end HL

namespace HL
open PySem PySem.Spec PyProof.Rows L2
open C8 (pss_cut)
/-! ### slices just so -/
theorem cut_to {xs : List V} {n : Nat} : cutV xs none (some (n : Int)) = xs.take n := by
  unfold cutV
  rw [HT.sIx_none, HT.sIx_nat, List.drop_zero, Nat.sub_zero]
  by_cases h : n ≤ xs.length
  · rw [Nat.min_eq_left h]
  · rw [Nat.min_eq_right (by omega), List.take_length, List.take_of_length_le (by omega)]
theorem cut_from {xs : List V} {n : Nat} : cutV xs (some (n : Int)) none = xs.drop n := by
  unfold cutV
  rw [HT.sIx_none, HT.sIx_nat]
  by_cases h : n ≤ xs.length
  · rw [Nat.min_eq_left h]
    exact List.take_of_length_le (by rw [List.length_drop]; omega)
  · rw [Nat.min_eq_right (by omega), List.drop_eq_nil_of_le (by omega), List.drop_eq_nil_of_le (by omega), List.take_nil]
theorem slice_to {K : PySem.W.Frag} {H : Hp} {a : Addr} {as : List Addr} {ll : List (List Int)} {n : Nat} {Q : VK} (ha : RowsAt H a as ll) (q : ∀ p H', Same H H' → RowsAt H' p (as.take n) (ll.take n) → Q (.ref p) H') : rSlA K (.ref a) none (some (n : Int)) H Q :=
  slice_read ha.1 fun p H' s h => q p H' s ⟨by rw [cut_to, ← List.map_take] at h; exact h, (ha.2.same s).take n⟩
theorem slice_from {K : PySem.W.Frag} {H : Hp} {a : Addr} {as : List Addr} {ll : List (List Int)} {n : Nat} {Q : VK} (ha : RowsAt H a as ll) (q : ∀ p H', Same H H' → RowsAt H' p (as.drop n) (ll.drop n) → Q (.ref p) H') : rSlA K (.ref a) (some (n : Int)) none H Q :=
  slice_read ha.1 fun p H' s h => q p H' s ⟨by rw [cut_from, ← List.map_drop] at h; exact h, (ha.2.same s).drop n⟩
def cutAt {α : Type} (n : Nat) (l : List α) : List α := l.take n ++ l.drop (n + 1)
/-- what a comprehension over a lot has made by its turn i -/
def PvR (H : Hp) (D : Addr) (f : List Int → List Int) (ll : List (List Int)) (i : Nat) (H' : Hp) : Prop := Same H H' ∧ ∃ bs : List Addr, H' D = some (.lst (bs.map V.ref)) ∧ Rows H' bs ((ll.take i).map f)
theorem PvR.start {H : Hp} {D : Addr} {f : List Int → List Int} {ll : List (List Int)} (nD : H D = none) : PvR H D f ll 0 (upd H D (.lst [])) := ⟨same_new nD, [], upd_same, by rw [List.take_zero]; exact True.intro⟩
theorem row_turn {n : Nat} {te : TE} {σ : L2.St} {H : Hp} {D p : Addr} {as : List Addr} {ll : List (List Int)} (f : List Int → List Int) (R : RowsAt H p as ll) (nD : H D = none) (hz : ll.length ≤ 100) (hw : ∀ v, wipe ((wipe σ [n]).set n (some v)) [n] = wipe σ [n])
    (hte : ∀ (b : Addr) (r : List Int) (H' : Hp) (Q' : VK), r ∈ ll → Same H H' → IntsAt H' b r → (∀ t H'', Same H' H'' → IntsAt H'' t (f r) → Q' (.ref t) H'') → te ((wipe σ [n]).set n (some (.ref b))) H' Q')
    (i : Nat) (x : V) (H' : Hp) (hx : (as.map V.ref)[i]? = some x) (hP : PvR H D f ll i H') :
    gName n x (wipe σ [n]) H' fun σ2 H2 => wipe σ2 [n] = wipe σ [n] ∧ tYes σ2 H2 fun b H3 => if b = true then te σ2 H3 (fun y H4 => ∃ acc, H4 D = some (.lst acc) ∧ acc.length < sizeLine ∧ PvR H D f ll (i + 1) (upd H4 D (.lst (acc ++ [y])))) else PvR H D f ll (i + 1) H3 := by
  obtain ⟨sm, bs, hD, hB⟩ := hP
  obtain ⟨b, hb, rfl⟩ : ∃ b, as[i]? = some b ∧ x = V.ref b := by
    rw [List.getElem?_map] at hx
    cases e : as[i]? with
    | none => rw [e] at hx; cases hx
    | some b => rw [e] at hx; exact ⟨b, rfl, (Option.some.inj hx).symm⟩
  obtain ⟨r, hr1, hr2⟩ := R.2.at hb
  refine ⟨hw _, yes (iteT (hte b r H' _ (List.mem_of_getElem? hr1) sm (sm _ _ hr2) fun t H'' s2 ht => ?_))⟩
  have hD2 := s2 _ _ hD
  have hl : ((ll.take i).map f).length ≤ 100 := by
    rw [List.length_map, List.length_take]
    omega
  refine ⟨_, hD2, ?_, same_late (sm.trans s2) nD, bs ++ [t], ?_, ?_⟩
  · rw [List.length_map, hB.len]
    exact small1000 (by omega)
  · rw [upd_same, List.map_append]
    rfl
  · rw [List.take_add_one, hr1, List.map_append]
    exact ((hB.same s2).lput hD2).app ⟨by rw [upd_ne (ne_of ht hD2 (fun z => by cases z))]; exact ht, True.intro⟩
theorem PvR.fin {H H' : Hp} {D : Addr} {f : List Int → List Int} {as : List Addr} {ll : List (List Int)} (hl : as.length = ll.length) (h : PvR H D f ll (as.map V.ref).length H') : Same H H' ∧ ∃ bs : List Addr, H' D = some (.lst (bs.map V.ref)) ∧ Rows H' bs (ll.map f) := by
  obtain ⟨s, bs, h1, h2⟩ := h
  rw [List.length_map, hl, List.take_length] at h2
  exact ⟨s, bs, h1, h2⟩
def zeros (n : Nat) : List Int := List.replicate n 0
def bes (l1 l2 : List (List Int)) : List (List Int) := l1.map (fun r => r ++ zeros (width l2)) ++ l2.map (fun r => zeros (width l1) ++ r)
theorem rep0_read {K : PySem.W.Frag} {H : Hp} {t : Addr} {n : Nat} {Q : VK} (ht : H t = some (.tup [.int 0])) (n1 : 1 ≤ n) (n2 : n ≤ 1000) (q : ∀ p H', Same H H' → IntsAt H' p (zeros n) → Q (.ref p) H') : rRepA K (.ref t) (.int (n : Nat)) H Q := by
  refine ⟨t, (n : Nat), [.int 0], rfl, rfl, SqT.of ht, by decide, by omega, by omega, by decide, fun e => ?_, fun e p np => ?_⟩
  · have : n = 1 := by omega
    subst this
    exact q t H (Same.refl _) ht
  · refine q p _ (same_new np) ?_
    unfold IntsAt
    rw [upd_same, rep_one, Int.toNat_natCast]
    unfold zeros
    rw [List.map_replicate]
theorem width_map {f : List Int → List Int} {ll : List (List Int)} (h : 1 ≤ ll.length) : width (ll.map f) = (f (ll.headD [])).length := by
  cases ll with
  | nil => simp at h
  | cons r rs => rfl
theorem bes_len {l1 l2 : List (List Int)} : (bes l1 l2).length = l1.length + l2.length := by
  unfold bes
  rw [List.length_append, List.length_map, List.length_map]
theorem bes_mem {l1 l2 : List (List Int)} {r : List Int} (h : r ∈ bes l1 l2) : (∃ r1 ∈ l1, r = r1 ++ zeros (width l2)) ∨ ∃ r2 ∈ l2, r = zeros (width l1) ++ r2 := by
  rcases List.mem_append.mp h with h | h
  · obtain ⟨r1, h1, rfl⟩ := List.mem_map.mp h
    exact .inl ⟨r1, h1, rfl⟩
  · obtain ⟨r1, h1, rfl⟩ := List.mem_map.mp h
    exact .inr ⟨r1, h1, rfl⟩
theorem zeros_len (n : Nat) : (zeros n).length = n := List.length_replicate
theorem bes_row {l1 l2 : List (List Int)} (h1 : ∀ r ∈ l1, r.length = width l1 ∧ ∀ n ∈ r, 0 ≤ n ∧ n ≤ 6) (h2 : ∀ r ∈ l2, r.length = width l2 ∧ ∀ n ∈ r, 0 ≤ n ∧ n ≤ 6) : ∀ r ∈ bes l1 l2, r.length = width l1 + width l2 ∧ ∀ n ∈ r, 0 ≤ n ∧ n ≤ 6 := fun r hr => by
  rcases bes_mem hr with ⟨r1, m, rfl⟩ | ⟨r1, m, rfl⟩
  · refine ⟨by rw [List.length_append, zeros_len, (h1 r1 m).1], fun n hn => ?_⟩
    rcases List.mem_append.mp hn with h | h
    · exact (h1 r1 m).2 n h
    · rw [List.eq_of_mem_replicate h]
      decide
  · refine ⟨by rw [List.length_append, zeros_len, (h2 r1 m).1], fun n hn => ?_⟩
    rcases List.mem_append.mp hn with h | h
    · rw [List.eq_of_mem_replicate h]
      decide
    · exact (h2 r1 m).2 n h
theorem bes_width {l1 l2 : List (List Int)} (hl : 1 ≤ l1.length) (h1 : ∀ r ∈ l1, r.length = width l1 ∧ ∀ n ∈ r, 0 ≤ n ∧ n ≤ 6) : width (bes l1 l2) = width l1 + width l2 := by
  cases l1 with
  | nil => simp at hl
  | cons r rs =>
    show (r ++ zeros (width l2)).length = _
    rw [List.length_append, zeros_len, (h1 r List.mem_cons_self).1]
abbrev NB : List Str := ["one", "other", "left", "right", "kinds", "fresh", "hold"]
theorem scBs : FnScope NB ["one", "other"] (defScope sBeside) := ⟨rfl, rfl, rfl, by decide +kernel, rfl, by decide +kernel, by decide +kernel⟩
theorem scWO : FnScope ["lot", "kind", "fresh"] ["lot", "kind"] (defScope sWithout) := ⟨rfl, rfl, rfl, by decide +kernel, rfl, by decide +kernel, by decide +kernel⟩
theorem scSm : FnScope ["_law_feed_here", "_law_how"] ["_law_feed_here"] (defScope sSmall) := ⟨rfl, rfl, rfl, by decide +kernel, rfl, by decide +kernel, by decide +kernel⟩
theorem scMi : FnScope ["_law_one", "_law_other", "_law_at"] ["_law_one", "_law_other"] (defScope sMinus) := ⟨rfl, rfl, rfl, by decide +kernel, rfl, by decide +kernel, by decide +kernel⟩
theorem scTi : FnScope ["_law_row", "_law_many", "_law_number"] ["_law_row", "_law_many"] (defScope sTimes) := ⟨rfl, rfl, rfl, by decide +kernel, rfl, by decide +kernel, by decide +kernel⟩
theorem scWn : FnScope ["_law_one", "_law_other", "_law_at"] ["_law_one", "_law_other"] (defScope sWithin) := ⟨rfl, rfl, rfl, by decide +kernel, rfl, by decide +kernel, by decide +kernel⟩
theorem subR_at {xs ys : List Int} {i : Nat} {k : Int} (h1 : i < xs.length) (h2 : i < ys.length) : (subR xs ys k)[i]? = some (xs.getD i 0 - k * ys.getD i 0) := by
  unfold subR
  rw [List.getElem?_map, zipI_at (List.getElem?_eq_getElem h1) (List.getElem?_eq_getElem h2), List.getD_eq_getElem?_getD, List.getElem?_eq_getElem h1, List.getD_eq_getElem?_getD, List.getElem?_eq_getElem h2]
  rfl
theorem subR_times {k : Int} : ∀ {b h : List Int}, subR b (h.map fun z => z * k) 1 = subR b h k
  | [], _ => rfl
  | _ :: _, [] => rfl
  | x :: b, y :: h => by
    rw [List.map_cons, subR_cons, subR_cons, subR_times]
    congr 1
    rw [Int.one_mul, Int.mul_comm]
theorem cnt_le {g S : Nat} : ∀ {l : List (List Int)} {b : List Int}, (∀ x ∈ l, Kd g x) → b.length = g → b.sum.toNat ≤ S → cnt l b ≤ (S + 1) ^ l.length
  | [], b, _, _, _ => by
    unfold cnt
    split <;> simp
  | h :: t, b, hl, hb, hS => by
    have kh := hl h List.mem_cons_self
    have eb : b.length = h.length := by rw [hb, kh.1]
    rw [cnt_to hl hb (m := S + 1) (by omega), List.length_cons, Nat.pow_succ]
    have key : ∀ (n : Nat), ((List.range n).map fun (k : Nat) => cnt t (subR b h (k : Int))).sum ≤ n * (S + 1) ^ t.length := fun n => by
      induction n with
      | zero => simp
      | succ n ih =>
        rw [List.range_succ, List.map_append, List.sum_append, Nat.add_mul]
        have h1 : cnt t (subR b h (n : Int)) ≤ (S + 1) ^ t.length := cnt_le (fun x hx => hl x (List.mem_cons_of_mem _ hx)) (by rw [subR_len eb, hb]) (by
          rw [subR_sum eb]
          have := sum_kd kh
          have : 0 ≤ (n : Int) * h.sum := Int.mul_nonneg (by omega) (by omega)
          omega)
        simp
        omega
    have := key (S + 1)
    rw [Nat.mul_comm]
    exact this
/-- one turn of a comprehension over a range whose list is told by a function -/
theorem turn_fn {H H4 H5 : Hp} {D : Addr} {xs : List Int} {i : Nat} {v : Int} (nD : H D = none) (hx : xs[i]? = some v) (hz : xs.length ≤ 1000) (s4 : Same H H4) (hD : H4 D = some (.lst ((xs.take i).map V.int))) (s5 : Same H4 H5) :
    ∃ acc, H5 D = some (.lst acc) ∧ acc.length < sizeLine ∧ Same H (upd H5 D (.lst (acc ++ [.int v]))) ∧ upd H5 D (.lst (acc ++ [.int v])) D = some (.lst ((xs.take (i + 1)).map V.int)) := by
  refine ⟨_, s5 _ _ hD, ?_, same_late (s4.trans s5) nD, ?_⟩
  · rw [List.length_map]
    exact small1000 (Nat.le_trans (List.length_take_le' _ _) hz)
  · rw [upd_same, List.take_add_one, hx, List.map_append]
    rfl
theorem atIT {xs : List Int} {i : Nat} (h : i < xs.length) : atI (xs.map V.int) (i : Int) = some (.int (xs.getD i 0)) := atI_nat (by rw [List.getElem?_map, List.getD_eq_getElem?_getD, List.getElem?_eq_getElem h]; rfl)
section
variable {P : Program} {w : World} {K : PySem.W.Frag} {mg : Str → Option Value} {base : Heap}
def spWithout0 : Sp := fun vs H Q _ => ∃ (p : Addr) (n : Nat) (as : List Addr) (ll : List (List Int)), vs = [.ref p, .int (n : Int)] ∧ RowsAt H p as ll ∧ flaw ll = none ∧ n < ll.length ∧ flaw (cutAt n ll) = none ∧ ∀ H' p', Same H H' → RowsAt H' p' (cutAt n as) (cutAt n ll) → Q (.ref p') H'
theorem ok_without0 {f : Addr} {fd : FuncData} (F : Fun K "without" "without" sWithout f fd) (B : Bl mg) (CL : Cal P w K mg base CX0 2 "look_lot" ["lot"] spLook0) : FnOk P w K mg base CX0 3 f fd ["lot", "kind"] spWithout0 := by
  obtain ⟨fL, fdL, GL, gL, kL, bL⟩ := CL.ex
  refine F.ok scWO (fun vs H Q E h => ?_) (fun cdv A outer s H vs Q E hr h => ?_)
  · obtain ⟨p, n, as, ll, rfl, _⟩ := h
    rfl
  · obtain ⟨p, n, as, ll, rfl, hL, ef, hn, ef2, q⟩ := h
    refine ⟨_, pss_cons (ps_expr (pe_call GL hr (by rfl) gL kL bL .nil pass0 (pa_cons (pv 0) pa_nil)))
      (pss_cons (ps_if (pt_not (pt_chain op_le op_lt pe_int (pv 1) (pe_callB call_len_seq (by rfl) B.len PySem.boot_len (pa_cons (pv 0) pa_nil)))) pss_never pss_nil)
      (pss_cons (ps_set (i := 2) scWO.nd rfl (.inl rfl) (pe_op op_catA (pe_slice sl_tupA (pv 0) po_none (po_some (pv 1))) (pe_slice sl_tupA (pv 0) (po_some (pe_op op_add (pv 1) pe_int)) po_none)))
      (pss_cons (ps_expr (pe_call GL hr (by rfl) gL kL bL .nil pass0 (pa_cons (pv 2) pa_nil)))
      (pss_one (ps_ret (pv 2)))))), ?_⟩
    have hok := flaw_ok ef
    have hlen := hL.2.len
    refine ⟨.ref p, rfl, p, as, ll, rfl, hL, ef, fun H1 s1 => ?_⟩
    have hL1 := hL.same s1
    refine ⟨.int (n : Int), rfl, 0, (n : Int), rfl, rfl, _, rfl, chainF (j := (ll.length : Nat)) (fun Q' hq => ⟨.ref p, rfl, p, _, rfl, .inr (SqT.of hL1.1), by rw [List.length_map, hlen]; exact hq⟩) ?_⟩
    rw [decide_eq_true (show (0 : Int) ≤ (n : Int) ∧ (n : Int) < (ll.length : Nat) by omega)]
    refine iteF ?_
    refine ⟨.ref p, rfl, .int (n : Int), rfl, (n : Int), rfl, slice_to hL1 fun p2 H2 s2 hp2 => ?_⟩
    have en : (n : Int) + 1 = ((n + 1 : Nat) : Int) := by omega
    refine ⟨.ref p, rfl, .int (n : Int), rfl, (n : Int), 1, rfl, rfl, (n : Int) + 1, rfl, noPart ?_⟩
    rw [en]
    refine slice_from (hL1.same s2) fun p4 H4 s4 hp4 => ?_
    have l2 : (ll.drop (n + 1)).length ≤ ll.length := by rw [List.length_drop]; omega
    have l1' : (ll.take n).length ≤ ll.length := by rw [List.length_take]; omega
    refine cat_rows (hp2.same s4) hp4 (by omega) fun p5 H5 s5 hp5 => ?_
    have s15 : Same H H5 := s1.trans (s2.trans (s4.trans s5))
    refine ⟨.ref p5, rfl, p5, cutAt n as, cutAt n ll, rfl, hp5, ef2, fun H6 s6 => ⟨.ref p5, rfl, q H6 p5 (s15.trans s6) (RowsAt.same hp5 s6)⟩⟩
def spBeside0 : Sp := fun vs H Q _ => ∃ (p1 p2 : Addr) (as1 as2 : List Addr) (l1 l2 : List (List Int)), vs = [.ref p1, .ref p2] ∧ RowsAt H p1 as1 l1 ∧ RowsAt H p2 as2 l2 ∧ flaw l1 = none ∧ flaw l2 = none ∧
  flaw (bes l1 l2) = none ∧ ∀ H' p' as', Same H H' → RowsAt H' p' as' (bes l1 l2) → Q (.ref p') H'
theorem ok_beside0 {f : Addr} {fd : FuncData} (F : Fun K "beside" "beside" sBeside f fd) (B : Bl mg) (CL : Cal P w K mg base CX0 2 "look_lot" ["lot"] spLook0) (CGo : Cal P w K mg base CX0 3 "goods_of" ["lot"] spGoods0) :
    FnOk P w K mg base CX0 4 f fd ["one", "other"] spBeside0 := by
  obtain ⟨fL, fdL, GL, gL, kL, bL⟩ := CL.ex
  obtain ⟨fGO, fdGO, GGO, gGO, kGO, bGO⟩ := CGo.ex
  refine F.ok scBs (fun vs H Q E h => ?_) (fun cdv A outer s H vs Q E hr h => ?_)
  · obtain ⟨p1, p2, as1, as2, l1, l2, rfl, _⟩ := h
    rfl
  · obtain ⟨p1, p2, as1, as2, l1, l2, rfl, hL1, hL2, ef1, ef2, q3, q4⟩ := h
    refine ⟨_, (pss_cons (ps_set (i := 2) scBs.nd rfl (.inr rfl) (pe_call GGO hr (by rfl) gGO kGO bGO .nil pass0 (pa_cons (pv 0) pa_nil)))
      (pss_cons (ps_set (i := 3) scBs.nd rfl (.inr rfl) (pe_call GGO hr (by rfl) gGO kGO bGO .nil pass0 (pa_cons (pv 1) pa_nil)))
      (pss_cons (ps_set (i := 4) scBs.nd rfl (.inl rfl) (pe_op op_cat (pe_lc (own := [("hold", 6)]) (g := gName 6) (tt := tYes) (te := tOp (rCatA K) (tVar 6) (tOp (rRepA K) (tTup (tCons (tC (.int 0)) tNil)) (tVar 3))) rfl scBs.nd (pi_tup (pv 0))
        (blkOk_by (own := [("hold", 6)]) (N := NB) (sc := defScope sBeside) (by decide +kernel)) (fun _ _ _ _ _ => pg_name (i := 6) scBs.nd rfl (Or.inl rfl)) (fun _ _ _ _ _ => pts_nil)
        (fun _ _ _ _ _ => (pe_op op_catA (pv 6) (pe_op op_repA (pe_tup (pa_cons pe_int pa_nil)) (pv 3))))) (pe_lc (own := [("hold", 6)]) (g := gName 6) (tt := tYes) (te := tOp (rCatA K) (tOp (rRepA K) (tTup (tCons (tC (.int 0)) tNil)) (tVar 2)) (tVar 6)) rfl scBs.nd (pi_tup (pv 1))
        (blkOk_by (own := [("hold", 6)]) (N := NB) (sc := defScope sBeside) (by decide +kernel)) (fun _ _ _ _ _ => pg_name (i := 6) scBs.nd rfl (Or.inl rfl)) (fun _ _ _ _ _ => pts_nil)
        (fun _ _ _ _ _ => (pe_op op_catA (pe_op op_repA (pe_tup (pa_cons pe_int pa_nil)) (pv 2)) (pv 6))))))
      (pss_cons (ps_set (i := 5) scBs.nd rfl (.inl rfl) (pe_callTy call_tuple_of (by rfl) B.tuple (by decide +kernel) (pa_cons (pv 4) pa_nil)))
      (pss_cons (ps_expr (pe_call GL (hr.mono (by decide)) (by rfl) gL kL bL .nil pass0 (pa_cons (pv 5) pa_nil)))
      (pss_one (ps_ret (pv 5)))))))), ?_⟩
    have hok1 := flaw_ok ef1
    have hok2 := flaw_ok ef2
    have hr1 := flaw_rows ef1
    have hr2 := flaw_rows ef2
    have hlen1 := hL1.2.len
    have hlen2 := hL2.2.len
    have hz1 : ∀ r ∈ l1, r.length ≤ 100 := fun r hr => by have := (hr1 r hr).1; omega
    have hz2 : ∀ r ∈ l2, r.length ≤ 100 := fun r hr => by have := (hr2 r hr).1; omega
    refine ⟨.ref p1, rfl, p1, as1, l1, rfl, hL1, ef1, fun H1 s1 => ?_⟩
    refine ⟨.ref p2, rfl, p2, as2, l2, rfl, hL2.same s1, ef2, fun H2 s2 => ?_⟩
    have s12 := s1.trans s2
    have R1 := hL1.same s12
    have R2 := hL2.same s12
    refine ⟨.ref p1, rfl, p1, rfl, ⟨_, SqT.of R1.1⟩, fun D nD => ?_⟩
    refine lc_tup (K := K) (a := p1) (xs := as1.map V.ref) (PvR H2 D (fun r => r ++ zeros (width l2)) l1) (PvR.start nD) (fun i H' _ hP => SqT.of (R1.same hP.1).1) (row_turn _ R1 nD (by omega) (fun _ => rfl) fun b r H3 Q' hr s3 hb hq => ?_) (fun H3 hP => ?_)
    · refine ⟨.ref b, rfl, sz_1 _, fun t nt => ⟨.int (width l2 : Nat), rfl, ?_⟩⟩
      refine rep0_read upd_same (by omega) (by omega) fun z H4 s4 hz => ?_
      have s34 := (same_new nt).trans s4
      exact cat_ints (hb.same s34) hz (by rw [zeros_len]; have := hz1 r hr; omega) fun y H5 s5 hy => hq y H5 (s34.trans s5) hy
    obtain ⟨s3, bs, hD, hB⟩ := hP.fin hlen1
    have R2' := R2.same s3
    refine ⟨.ref p2, rfl, p2, rfl, ⟨_, SqT.of R2'.1⟩, fun D2 nD2 => ?_⟩
    refine lc_tup (K := K) (a := p2) (xs := as2.map V.ref) (PvR H3 D2 (fun r => zeros (width l1) ++ r) l2) (PvR.start nD2) (fun i H' _ hP => SqT.of (R2'.same hP.1).1) (row_turn _ R2' nD2 (by omega) (fun _ => rfl) fun b r H4 Q' hr s4 hb hq => ?_) (fun H4 hP => ?_)
    · refine ⟨sz_1 _, fun t nt => ⟨.int (width l1 : Nat), rfl, ?_⟩⟩
      refine rep0_read upd_same (by omega) (by omega) fun z H5 s5 hz => ?_
      have s45 := (same_new nt).trans s5
      exact ⟨.ref b, rfl, cat_ints hz (hb.same s45) (by rw [zeros_len]; have := hz2 r hr; omega) fun y H6 s6 hy => hq y H6 (s45.trans s6) hy⟩
    obtain ⟨s4, cs, hD2, hC⟩ := hP.fin hlen2
    have hbl := hB.len
    have hcl := hC.len
    rw [List.length_map] at hbl hcl
    refine ⟨D, D2, _, _, rfl, rfl, s4 _ _ hD, hD2, by rw [List.length_map, List.length_map]; exact sz1000 (by omega), fun l nl => ?_⟩
    have s5 := same_new (o := .lst (bs.map V.ref ++ cs.map V.ref)) nl
    refine ⟨.ref l, rfl, l, _, rfl, .inl ⟨SqL.of upd_same, fun t nt => ?_⟩⟩
    have s6 := same_new (o := .tup (bs.map V.ref ++ cs.map V.ref)) nt
    have R3 : RowsAt (upd (upd H4 l (.lst (bs.map V.ref ++ cs.map V.ref))) t (.tup (bs.map V.ref ++ cs.map V.ref))) t (bs ++ cs) (bes l1 l2) := ⟨by rw [upd_same, List.map_append], (((hB.same s4).same s5).same s6).app ((hC.same s5).same s6)⟩
    have s7 := s12.trans (s3.trans (s4.trans (s5.trans s6)))
    have hbr := bes_row hr1 hr2
    exact ⟨.ref t, rfl, t, bs ++ cs, bes l1 l2, rfl, R3, q3, fun H8 s8 => ⟨.ref t, rfl, q4 H8 t _ (s7.trans s8) (R3.same s8)⟩⟩
/-! ### the law's own -/
def spSmall : Sp := fun vs H Q _ => ∃ (f c : Addr), vs = [.ref f] ∧ FeedAt c H f ∧
  ∀ H' p ll (g m : Int), Kp f H H' → FeedAt c H' f → LotAt H' p ll → 1 ≤ g → g ≤ 3 → 1 ≤ m → m ≤ 3 → GoodLot g m 4 ll → Q (.ref p) H'
theorem ok_small {f : Addr} {fd : FuncData} (F : Fun K "_law_small_lot" "_law_small_lot" sSmall f fd) (CD : Cal P w K mg base CX0 1 "_law_draw" ["_law_feed_here", "_law_many"] spDraw) (CL : Cal P w K mg base CX0 3 "_law_lot" ["_law_feed_here", "_law_goods", "_law_kinds", "_law_most"] spLot) : FnOk P w K mg base CX0 4 f fd ["_law_feed_here"] spSmall := by
  obtain ⟨fD, fdD, GD, gD, kD, bD⟩ := CD.ex
  obtain ⟨fL, fdL, GL, gL, kL, bL⟩ := CL.ex
  refine F.ok scSm (fun vs H Q E h => ?_) (fun cdv A outer s H vs Q E hr h => ?_)
  · obtain ⟨a, c, rfl, _⟩ := h
    rfl
  · obtain ⟨a, c, rfl, Fd, q⟩ := h
    refine ⟨_, pss_cons (ps_set (i := 1) scSm.nd rfl (.inl rfl) (pe_call GD (hr.mono (by decide)) (by rfl) gD kD bD .nil pass0 (pa_cons (pv 0) (pa_cons pe_int pa_nil))))
      (pss_cons (ps_if (pt_cmpR op_lt (pv 1) pe_int (nomark _)) (pss_one (ps_ret (pe_call GL hr (by rfl) gL kL bL .nil pass0 (pa_cons (pv 0) (pa_cons pe_int (pa_cons pe_int (pa_cons pe_int pa_nil))))))) pss_nil)
      (pss_cons (ps_if (pt_cmpR op_lt (pv 1) pe_int (nomark _)) (pss_one (ps_ret (pe_call GL hr (by rfl) gL kL bL .nil pass0 (pa_cons (pv 0) (pa_cons pe_int (pa_cons pe_int (pa_cons pe_int pa_nil))))))) pss_nil)
      (pss_one (ps_ret (pe_call GL hr (by rfl) gL kL bL .nil pass0 (pa_cons (pv 0) (pa_cons pe_int (pa_cons pe_int (pa_cons pe_int pa_nil)))))))))
      , ?_⟩
    refine ⟨.ref a, rfl, a, c, 5, rfl, by decide, by decide, Fd, fun d H1 d0 d1 k1 F1 => ?_⟩
    have weak : ∀ {g m : Int} {n : Nat} {ll : List (List Int)}, n ≤ 4 → GoodLot g m n ll → GoodLot g m 4 ll := fun hn ⟨e1, e2, e3⟩ => ⟨e1, by omega, e3⟩
    refine ⟨.int d, rfl, d, 2, rfl, rfl, _, rfl, ite2 (fun _ => ?_) (fun _ => ?_)⟩
    · exact ⟨.ref a, rfl, a, c, 1, 4, 3, rfl, F1, by decide, by decide, by decide, by decide, by decide, by decide, fun H' p ll k2 F2 _ hL gl => q H' p ll 1 3 (k1.trans k2) F2 hL (by decide) (by decide) (by decide) (by decide) (weak (by decide) gl)⟩
    refine ⟨.int d, rfl, d, 4, rfl, rfl, _, rfl, ite2 (fun _ => ?_) (fun _ => ?_)⟩
    · exact ⟨.ref a, rfl, a, c, 2, 4, 2, rfl, F1, by decide, by decide, by decide, by decide, by decide, by decide, fun H' p ll k2 F2 _ hL gl => q H' p ll 2 2 (k1.trans k2) F2 hL (by decide) (by decide) (by decide) (by decide) (weak (by decide) gl)⟩
    · exact ⟨.ref a, rfl, a, c, 3, 3, 2, rfl, F1, by decide, by decide, by decide, by decide, by decide, by decide, fun H' p ll k2 F2 _ hL gl => q H' p ll 3 2 (k1.trans k2) F2 hL (by decide) (by decide) (by decide) (by decide) (weak (by decide) gl)⟩
def spMinus : Sp := fun vs H Q _ => ∃ (a b : Addr) (xs ys : List Int), vs = [.ref a, .ref b] ∧ IntsAt H a xs ∧ IntsAt H b ys ∧ xs.length = ys.length ∧ xs.length ≤ 100 ∧ ∀ H' p, Same H H' → IntsAt H' p (subR xs ys 1) → Q (.ref p) H'
theorem ok_minus {f : Addr} {fd : FuncData} {k : Nat} (F : Fun K "_law_minus" "_law_minus" sMinus f fd) (B : Bl mg) : FnOk P w K mg base CX0 (k + 1) f fd ["_law_one", "_law_other"] spMinus := by
  refine F.ok scMi (fun vs H Q E h => ?_) (fun cdv A outer s H vs Q E hr h => ?_)
  · obtain ⟨a, b, xs, ys, rfl, _⟩ := h
    rfl
  · obtain ⟨a, b, xs, ys, rfl, ha, hb, hl, hz, q⟩ := h
    refine ⟨_, pss_one (ps_ret (pe_callTy call_tuple_of (by rfl) B.tuple (by decide +kernel) (pa_cons (pe_lc (own := [("_law_at", 2)]) (g := gName 2) (tt := tYes) rfl scMi.nd (pi_range1 (by rfl) B.range (pa_cons (pe_callB call_len_seq (by rfl) B.len PySem.boot_len (pa_cons (pv 0) pa_nil)) pa_nil))
        (blkOk_by (own := [("_law_at", 2)]) (N := ["_law_one", "_law_other", "_law_at"]) (sc := defScope sMinus) (by decide +kernel)) (fun _ _ _ _ _ => pg_name (i := 2) scMi.nd rfl (Or.inl rfl)) (fun _ _ _ _ _ => pts_nil)
        (fun _ _ _ _ _ => pe_op op_sub (pe_ix (r := rIxT K) ix_tup (pv 0) (pv 2) (fun _ _ => rfl)) (pe_ix (r := rIxT K) ix_tup (pv 1) (pv 2) (fun _ _ => rfl)))) pa_nil))), ?_⟩
    refine ⟨.ref a, rfl, a, _, rfl, .inr (SqT.of ha), _, rfl, by rw [List.length_map]; omega, by rw [List.length_map]; omega, fun D nD => ?_⟩
    rw [List.length_map]
    refine lc_range (lo := 0) (n := ((xs.length : Nat) : Int).toNat) (fun i H' => Same H H' ∧ H' D = some (.lst (((subR xs ys 1).take i).map V.int))) ⟨same_new nD, upd_same⟩ (fun i H4 hi ⟨s4, hD⟩ => ?_) (fun H4 ⟨s4, hD⟩ => ?_)
    · have hi' : i < xs.length := by omega
      have ez : (0 : Int) + (i : Nat) = ((i : Nat) : Int) := by omega
      rw [ez]
      refine ⟨rfl, yes (iteT ?_)⟩
      refine ⟨.ref a, rfl, .int (i : Int), rfl, a, _, _, _, rfl, rfl, SqT.of (ha.same s4), atIT hi', .ref b, rfl, .int (i : Int), rfl, b, _, _, _, rfl, rfl, SqT.of (hb.same s4), atIT (by omega), _, _, rfl, rfl, ?_⟩
      refine turn_fn (xs := subR xs ys 1) nD ?_ (by rw [subR_len hl]; omega) s4 hD (Same.refl _)
      rw [subR_at hi' (by omega), Int.one_mul]
    · rw [Int.toNat_natCast, List.take_of_length_le (by rw [subR_len hl]; exact Nat.le_refl _)] at hD
      exact ⟨D, _, rfl, .inl ⟨SqL.of hD, fun z nz => q _ z (s4.trans (same_new nz)) upd_same⟩⟩
def spTimes : Sp := fun vs H Q _ => ∃ (a : Addr) (xs : List Int) (k : Int), vs = [.ref a, .int k] ∧ IntsAt H a xs ∧ xs.length ≤ 100 ∧ (∀ n ∈ xs, -1000 ≤ n ∧ n ≤ 1000) ∧ ∀ H' p, Same H H' → IntsAt H' p (xs.map fun z => z * k) → Q (.ref p) H'
theorem ok_times {f : Addr} {fd : FuncData} {k : Nat} (F : Fun K "_law_times" "_law_times" sTimes f fd) (B : Bl mg) : FnOk P w K mg base CX0 (k + 1) f fd ["_law_row", "_law_many"] spTimes := by
  refine F.ok scTi (fun vs H Q E h => ?_) (fun cdv A outer s H vs Q E hr h => ?_)
  · obtain ⟨a, xs, k, rfl, _⟩ := h
    rfl
  · obtain ⟨a, xs, k, rfl, ha, hz, hb, q⟩ := h
    refine ⟨_, pss_one (ps_ret (pe_callTy call_tuple_of (by rfl) B.tuple (by decide +kernel) (pa_cons (pe_lc (own := [("_law_number", 2)]) (g := gName 2) (tt := tYes) rfl scTi.nd (pi_tup (pv 0))
        (blkOk_by (own := [("_law_number", 2)]) (N := ["_law_row", "_law_many", "_law_number"]) (sc := defScope sTimes) (by decide +kernel)) (fun _ _ _ _ _ => pg_name (i := 2) scTi.nd rfl (Or.inl rfl)) (fun _ _ _ _ _ => pts_nil)
        (fun _ _ _ _ _ => pe_op op_mul (pv 2) (pv 1))) pa_nil))), ?_⟩
    refine ⟨.ref a, rfl, a, rfl, ⟨_, SqT.of ha⟩, fun D nD => ?_⟩
    refine lc_tup (K := K) (a := a) (xs := xs.map V.int) (fun i H' => Same H H' ∧ H' D = some (.lst (((xs.map fun z => z * k).take i).map V.int))) ⟨same_new nD, upd_same⟩ (fun i H' _ hP => SqT.of (ha.same hP.1)) (fun i x H' hx ⟨sm, hD⟩ => ?_) (fun H' ⟨sm, hD⟩ => ?_)
    · obtain ⟨n, hn, rfl⟩ : ∃ n, xs[i]? = some n ∧ x = V.int n := by
        rw [List.getElem?_map] at hx
        cases e : xs[i]? with
        | none => rw [e] at hx; cases hx
        | some n => rw [e] at hx; exact ⟨n, rfl, (Option.some.inj hx).symm⟩
      have hnb := hb n (List.mem_of_getElem? hn)
      refine ⟨rfl, yes (iteT ?_)⟩
      refine ⟨.int n, rfl, .int k, rfl, n, k, rfl, rfl, .inl ⟨by omega, by omega⟩, ?_⟩
      exact turn_fn (xs := xs.map fun z => z * k) nD (by rw [List.getElem?_map, hn]; rfl) (by rw [List.length_map]; omega) sm hD (Same.refl _)
    · rw [List.length_map, List.take_of_length_le (by rw [List.length_map]; exact Nat.le_refl _)] at hD
      exact ⟨D, _, rfl, .inl ⟨SqL.of hD, fun z nz => q _ z (sm.trans (same_new nz)) upd_same⟩⟩
def spWithin : Sp := fun vs H Q _ => ∃ (a b : Addr) (xs ys : List Int), vs = [.ref a, .ref b] ∧ IntsAt H a xs ∧ IntsAt H b ys ∧ xs.length = ys.length ∧ xs.length ≤ 100 ∧ ∀ H', Same H H' → Q (.bl (nnB (subR ys xs 1))) H'
theorem ok_within {f : Addr} {fd : FuncData} {k : Nat} (F : Fun K "_law_within" "_law_within" sWithin f fd) (B : Bl mg) : FnOk P w K mg base CX0 (k + 1) f fd ["_law_one", "_law_other"] spWithin := by
  refine F.ok scWn (fun vs H Q E h => ?_) (fun cdv A outer s H vs Q E hr h => ?_)
  · obtain ⟨a, b, xs, ys, rfl, _⟩ := h
    rfl
  · obtain ⟨a, b, xs, ys, rfl, ha, hb, hl, hz, q⟩ := h
    refine ⟨_, pss_one (ps_ret (pe_callB (cr_all rfl) (by rfl) B.all (by decide +kernel) (pa_cons (pe_lc (own := [("_law_at", 2)]) (g := gName 2) (tt := tYes) rfl scWn.nd (pi_range1 (by rfl) B.range (pa_cons (pe_callB call_len_seq (by rfl) B.len PySem.boot_len (pa_cons (pv 0) pa_nil)) pa_nil))
        (blkOk_by (own := [("_law_at", 2)]) (N := ["_law_one", "_law_other", "_law_at"]) (sc := defScope sWithin) (by decide +kernel)) (fun _ _ _ _ _ => pg_name (i := 2) scWn.nd rfl (Or.inl rfl)) (fun _ _ _ _ _ => pts_nil)
        (fun _ _ _ _ _ => pe_cmpR op_le (pe_ix (r := rIxT K) ix_tup (pv 0) (pv 2) (fun _ _ => rfl)) (pe_ix (r := rIxT K) ix_tup (pv 1) (pv 2) (fun _ _ => rfl)) (nomark _))) pa_nil))), ?_⟩
    refine ⟨.ref a, rfl, a, _, rfl, .inr (SqT.of ha), _, rfl, by rw [List.length_map]; omega, by rw [List.length_map]; omega, fun D nD => ?_⟩
    rw [List.length_map]
    refine lc_range (lo := 0) (n := ((xs.length : Nat) : Int).toNat) (fun i H' => Same H H' ∧ H' D = some (.lst ((((subR ys xs 1).take i).map fun z => decide (0 ≤ z)).map V.bl))) ⟨same_new nD, upd_same⟩ (fun i H4 hi ⟨s4, hD⟩ => ?_) (fun H4 ⟨s4, hD⟩ => ?_)
    · have hi' : i < xs.length := by omega
      have ez : (0 : Int) + (i : Nat) = ((i : Nat) : Int) := by omega
      rw [ez]
      refine ⟨rfl, yes (iteT ?_)⟩
      refine ⟨.ref a, rfl, .int (i : Int), rfl, a, _, _, _, rfl, rfl, SqT.of (ha.same s4), atIT hi', .ref b, rfl, .int (i : Int), rfl, b, _, _, _, rfl, rfl, SqT.of (hb.same s4), atIT (by omega), _, _, rfl, rfl, _, hD, ?_, same_late s4 nD, ?_⟩
      · rw [List.length_map, List.length_map]
        exact small1000 (Nat.le_trans (List.length_take_le' _ _) (by rw [subR_len hl.symm]; omega))
      · rw [upd_same, List.take_add_one, subR_at (by omega) hi', List.map_append, List.map_append]
        have e : decide (xs.getD i 0 ≤ ys.getD i 0) = decide (0 ≤ ys.getD i 0 - 1 * xs.getD i 0) := by
          by_cases z : xs.getD i 0 ≤ ys.getD i 0
          · rw [decide_eq_true z, decide_eq_true (by omega)]
          · rw [decide_eq_false z, decide_eq_false (by omega)]
        show some (HO.lst (_ ++ [V.bl (decide (xs.getD i 0 ≤ ys.getD i 0))])) = _
        rw [e]
        rfl
    · rw [Int.toNat_natCast, List.take_of_length_le (by rw [subR_len hl.symm]; omega)] at hD
      have q1 := q H4 s4
      have e : ((subR ys xs 1).map fun z => decide (0 ≤ z)).all id = nnB (subR ys xs 1) := by
        rw [List.all_map]
        rfl
      rw [← e] at q1
      exact ⟨D, _, rfl, SqL.of hD, q1⟩
end
end HL

set_option pp.maxSteps 600
set_option pp.deepTerms false
namespace HL
open PySem PySem.Spec PyProof.Rows L2
open C8 (pss_cut)
abbrev NL : List Str := ["_law_script", "_law_feed_here", "_law_turn", "_law_lot_here", "_law_bill", "_law_many", "_law_kind", "_law_left", "_law_less", "_law_more", "_law_one", "_law_other", "_law_first", "_law_second", "_law_due", "_law_twice", "_law_good", "_law_hold_here", "_law_k"]
theorem scLaw : FnScope NL ["_law_script"] (defScope sLaw) := ⟨rfl, rfl, rfl, by decide +kernel, rfl, by decide +kernel, by decide +kernel⟩
/-- what a comprehension over a lot that draws has made by its turn i -/
def PvD (f c : Addr) (H : Hp) (D : Addr) (ok : Int → Prop) (i : Nat) (H' : Hp) : Prop := Kp f H H' ∧ FeedAt c H' f ∧ ∃ ns : List Int, H' D = some (.lst (ns.map V.int)) ∧ ns.length = i ∧ ∀ n ∈ ns, ok n
theorem PvD.more {f c : Addr} {H H' H2 : Hp} {D : Addr} {ok : Int → Prop} {i : Nat} {z : Int} (nD : H D = none) (nf : D ≠ f) (nc : D ≠ c) (hi : i ≤ 100) (h : PvD f c H D ok i H') (k2 : Kp f H' H2) (F2 : FeedAt c H2 f) (hz : ok z) :
    ∃ acc, H2 D = some (.lst acc) ∧ acc.length < sizeLine ∧ PvD f c H D ok (i + 1) (upd H2 D (.lst (acc ++ [.int z]))) := by
  obtain ⟨kp, F', ns, hD, hl, hb⟩ := h
  refine ⟨_, k2 _ _ nf hD, ?_, (kp.trans k2).late nD, F2.put nf nc, ns ++ [z], ?_, ?_, ?_⟩
  · rw [List.length_map]
    exact small1000 (by omega)
  · rw [upd_same, List.map_append]
    rfl
  · rw [List.length_append, hl]
    rfl
  · intro n hn
    rcases List.mem_append.mp hn with h | h
    · exact hb n h
    · rw [List.mem_singleton.mp h]
      exact hz
theorem ite_join {b : Bool} {te1 te2 : TE} {σ : L2.St} {H : Hp} {Q : VK} (Z : V → Hp → Prop) (h1 : b = true → ∀ Q' : VK, (∀ v H', Z v H' → Q' v H') → te1 σ H Q') (h2 : b = false → ∀ Q' : VK, (∀ v H', Z v H' → Q' v H') → te2 σ H Q') (q : ∀ v H', Z v H' → Q v H') :
    if b = true then te1 σ H Q else te2 σ H Q := by
  cases b with
  | true => exact iteT (h1 rfl Q q)
  | false => exact iteF (h2 rfl Q q)
theorem flaw_of {ll : List (List Int)} (h1 : 1 ≤ ll.length) (h2 : ll.length ≤ 5) (h3 : 1 ≤ width ll) (h4 : width ll ≤ 3) (h : ∀ r ∈ ll, okRow (width ll) r = true) : flaw ll = none := by
  unfold flaw
  rw [if_pos ⟨h1, h2, h3, h4⟩]
  exact flawIn_none fun j r hj hjr => h r (List.mem_of_getElem? hjr)
theorem good_flaw {g m : Int} {n : Nat} {ll : List (List Int)} (g1 : 1 ≤ g) (g3 : g ≤ 3) (m6 : m ≤ 6) (hn : n ≤ 5) (h : GoodLot g m n ll) : flaw ll = none ∧ width ll = g.toNat := by
  obtain ⟨h1, h2, h3⟩ := h
  have hw : width ll = g.toNat := by
    cases ll with
    | nil => simp at h1
    | cons r rs => exact (h3 r List.mem_cons_self).1
  refine ⟨flaw_of h1 (by omega) (by omega) (by omega) fun r hr => ?_, hw⟩
  obtain ⟨e1, e2, e3⟩ := h3 r hr
  refine okRow_iff.mpr ⟨by rw [e1, hw], fun n hn => ?_, e3⟩
  have := e2 n hn
  omega
theorem cut_ok {ll : List (List Int)} {n : Nat} (ef : flaw ll = none) (hn : n < ll.length) (h2 : ll.length ≠ 1) : flaw (cutAt n ll) = none ∧ width (cutAt n ll) = width ll := by
  have hf := flaw_ok ef
  have hok := okRow_all ef
  have len : (cutAt n ll).length = ll.length - 1 := by
    unfold cutAt
    rw [List.length_append, List.length_take, List.length_drop]
    omega
  have mem : ∀ r ∈ cutAt n ll, r ∈ ll := fun r hr => by
    rcases List.mem_append.mp hr with h | h
    · exact List.mem_of_mem_take h
    · exact List.mem_of_mem_drop h
  have wd : width (cutAt n ll) = width ll := by
    cases e : cutAt n ll with
    | nil => rw [e] at len; simp at len; omega
    | cons r rs =>
      have := hok r (mem r (by rw [e]; exact List.mem_cons_self))
      exact (okRow_iff.mp this).1
  exact ⟨flaw_of (by omega) (by omega) (by omega) (by omega) fun r hr => by rw [wd]; exact hok r (mem r hr), wd⟩
theorem more_ok {ll : List (List Int)} {h : List Int} (ef : flaw ll = none) (hh : h ∈ ll) (hl : ll.length ≤ 4) : flaw (ll ++ [h]) = none ∧ width (ll ++ [h]) = width ll := by
  have hf := flaw_ok ef
  have hok := okRow_all ef
  have wd : width (ll ++ [h]) = width ll := by
    cases ll with
    | nil => cases hh
    | cons r rs => rfl
  refine ⟨flaw_of (by rw [List.length_append]; omega) (by rw [List.length_append, List.length_singleton]; omega) (by omega) (by omega) fun r hr => ?_, wd⟩
  rw [wd]
  rcases List.mem_append.mp hr with e | e
  · exact hok r e
  · rw [List.mem_singleton.mp e]
    exact hok h hh
theorem bes_flaw {l1 l2 : List (List Int)} (e1 : flaw l1 = none) (e2 : flaw l2 = none) (hl : l1.length + l2.length ≤ 5) (hw : width l1 + width l2 ≤ 3) : flaw (bes l1 l2) = none ∧ width (bes l1 l2) = width l1 + width l2 := by
  have f1 := flaw_ok e1
  have hr1 := flaw_rows e1
  have hr2 := flaw_rows e2
  have wd := bes_width (l2 := l2) f1.1 hr1
  refine ⟨flaw_of (by rw [bes_len]; omega) (by rw [bes_len]; omega) (by omega) (by omega) fun r hr => ?_, wd⟩
  have hb := bes_row hr1 hr2 r hr
  refine okRow_iff.mpr ⟨by rw [wd]; exact hb.1, hb.2, ?_⟩
  rcases bes_mem hr with ⟨r1, m1, rfl⟩ | ⟨r1, m1, rfl⟩
  · obtain ⟨n, h1, h2⟩ := (okRow_iff.mp (okRow_all e1 r1 m1)).2.2
    exact ⟨n, List.mem_append_left _ h1, h2⟩
  · obtain ⟨n, h1, h2⟩ := (okRow_iff.mp (okRow_all e2 r1 m1)).2.2
    exact ⟨n, List.mem_append_right _ h1, h2⟩
theorem box_pow {M : Int} (hM : 1 ≤ M) : ∀ {b : List Int} {x : Int}, 0 ≤ x → (∀ n ∈ b, 0 ≤ n ∧ n + 1 ≤ M) → b.foldl (fun x a => x * (a + 1)) x ≤ x * M ^ b.length
  | [], x, _, _ => by simp
  | a :: b, x, hx, hb => by
    have ha := hb a List.mem_cons_self
    have h1 : x * (a + 1) ≤ x * M := Int.mul_le_mul_of_nonneg_left ha.2 hx
    have h2 := box_pow hM (b := b) (x := x * (a + 1)) (Int.mul_nonneg hx (by omega)) fun n hn => hb n (List.mem_cons_of_mem _ hn)
    have h3 : x * (a + 1) * M ^ b.length ≤ x * M * M ^ b.length := Int.mul_le_mul_of_nonneg_right h1 (Int.pow_nonneg (by omega))
    rw [List.foldl_cons, List.length_cons, Int.pow_succ, Int.mul_comm (M ^ b.length) M, ← Int.mul_assoc]
    exact Int.le_trans h2 h3
def lim (w : Nat) : Int := if w = 1 then 60 else if w = 2 then 19 else 7
theorem box_lim {w : Nat} {b : List Int} (h1 : 1 ≤ w) (h3 : w ≤ 3) (hl : b.length = w) (hb : ∀ n ∈ b, 0 ≤ n ∧ n < lim w) : boxI b ≤ 4000 := by
  have hM : 1 ≤ lim w := by unfold lim; split <;> (try split) <;> decide
  have := box_pow hM (b := b) (x := 1) (by decide) fun n hn => ⟨(hb n hn).1, by have := (hb n hn).2; omega⟩
  rw [hl] at this
  have e : (1 : Int) * lim w ^ w ≤ 4000 := by
    rcases (by omega : w = 1 ∨ w = 2 ∨ w = 3) with rfl | rfl | rfl <;> decide
  exact Int.le_trans this e
theorem sub_le {L : Int} : ∀ {b h : List Int}, b.length = h.length → (∀ n ∈ h, 0 ≤ n) → (∀ n ∈ b, n < L) → ∀ n ∈ subR b h 1, n < L
  | [], [], _, _, _, n, hn => by cases hn
  | x :: b, y :: h, e, h0, hb, n, hn => by
    rw [subR_cons] at hn
    rcases List.mem_cons.mp hn with q | q
    · have := h0 y List.mem_cons_self
      have := hb x List.mem_cons_self
      omega
    · exact sub_le (by simpa using e) (fun m hm => h0 m (List.mem_cons_of_mem _ hm)) (fun m hm => hb m (List.mem_cons_of_mem _ hm)) n q
  | [], _ :: _, e, _, _, _, _ => by simp at e
  | _ :: _, [], e, _, _, _, _ => by simp at e
theorem lim_le (w : Nat) : lim w ≤ 60 := by unfold lim; split <;> (try split) <;> decide
/-- all that the law takes from the module -/
structure Txt (P : Program) (w : World) (K : PySem.W.Frag) (mg : Str → Option Value) (base : Heap) : Prop where
  B : Bl mg
  any : mg "any" = none
  feed : Cal P w K mg base CX0 1 "_law_feed" ["_law_script"] (spFeed K)
  draw : Cal P w K mg base CX0 1 "_law_draw" ["_law_feed_here", "_law_many"] spDraw
  same : Cal P w K mg base CX0 1 "_law_same" ["_law_found", "_law_due"] (spSame 0)
  lot : Cal P w K mg base CX0 3 "_law_lot" ["_law_feed_here", "_law_goods", "_law_kinds", "_law_most"] spLot
  small : Cal P w K mg base CX0 4 "_law_small_lot" ["_law_feed_here"] spSmall
  mi : Cal P w K mg base CX0 1 "_law_minus" ["_law_one", "_law_other"] spMinus
  ti : Cal P w K mg base CX0 1 "_law_times" ["_law_row", "_law_many"] spTimes
  wn : Cal P w K mg base CX0 1 "_law_within" ["_law_one", "_law_other"] spWithin
  no : Cal P w K mg base CX0 1 "_law_noughts" ["_law_many"] spNoughts
  hm : Cal P w K mg base CX0 6 "how_many" ["lot", "bill"] spHowMany
  wo : Cal P w K mg base CX0 3 "without" ["lot", "kind"] spWithout0
  bs : Cal P w K mg base CX0 4 "beside" ["one", "other"] spBeside0
theorem sum_zeroB : ∀ {b : List Int}, (∀ n ∈ b, n = 0) → b.sum = 0
  | [], _ => rfl
  | x :: b, hz => by rw [List.sum_cons, hz x List.mem_cons_self, sum_zeroB fun n hn => hz n (List.mem_cons_of_mem _ hn)]; rfl
/-- the law's turn: what it knows of the heap -/
structure S4 (cf fe p bl : Addr) (as : List Addr) (ll : List (List Int)) (b : List Int) (H : Hp) : Prop where
  F : FeedAt cf H fe
  R : RowsAt H p as ll
  C : IntsAt H bl b
section
variable {cf fe p bl : Addr} {as : List Addr} {ll : List (List Int)} {b : List Int} {H H' : Hp}
theorem S4.same (x : S4 cf fe p bl as ll b H) (s : Same H H') : S4 cf fe p bl as ll b H' := ⟨x.F.same s, x.R.same s, x.C.same s⟩
theorem S4.kp (x : S4 cf fe p bl as ll b H) (k : Kp fe H H') (F : FeedAt cf H' fe) : S4 cf fe p bl as ll b H' := ⟨F, x.R.kp x.F k, x.C.kp x.F k⟩
end
section
variable {P : Program} {w : World} {K : PySem.W.Frag} {mg : Str → Option Value} {base : Heap}
def spLaw (K : PySem.W.Frag) : Sp := fun vs H Q _ => ∃ (a : Addr) (ns : List Int), vs = [.ref a] ∧ SqL K H a (ns.map V.int) ∧ ns.length ≤ 63 ∧ ∀ H', Q (.bl true) H'
theorem ok_law {f : Addr} {fd : FuncData} (F : Fun K "law" "law" sLaw f fd) (T : Txt P w K mg base) : FnOk P w K mg base CX0 9 f fd ["_law_script"] (spLaw K) := by
  have B := T.B
  have mAny := T.any
  obtain ⟨fF, fdF, GF, gF, kF, bF⟩ := T.feed.ex
  obtain ⟨fD, fdD, GD, gD, kD, bD⟩ := T.draw.ex
  obtain ⟨fS, fdS, GS, gS, kS, bS⟩ := T.same.ex
  obtain ⟨fLo, fdLo, GLo, gLo, kLo, bLo⟩ := T.lot.ex
  obtain ⟨fSm, fdSm, GSm, gSm, kSm, bSm⟩ := T.small.ex
  obtain ⟨fMi, fdMi, GMi, gMi, kMi, bMi⟩ := T.mi.ex
  obtain ⟨fTi, fdTi, GTi, gTi, kTi, bTi⟩ := T.ti.ex
  obtain ⟨fWn, fdWn, GWn, gWn, kWn, bWn⟩ := T.wn.ex
  obtain ⟨fN, fdN, GN, gN, kN, bN⟩ := T.no.ex
  obtain ⟨fH, fdH, GH, gH, kH, bH⟩ := T.hm.ex
  obtain ⟨fWo, fdWo, GWo, gWo, kWo, bWo⟩ := T.wo.ex
  obtain ⟨fBs, fdBs, GBs, gBs, kBs, bBs⟩ := T.bs.ex
  refine F.ok scLaw (fun vs H Q E h => ?_) (fun cdv A outer s H vs Q E hr h => ?_)
  · obtain ⟨a, ns, rfl, _⟩ := h
    rfl
  · obtain ⟨a, ns, rfl, hS, hlen, q⟩ := h
    refine ⟨_, (pss_cons (ps_set (i := 1) scLaw.nd rfl (.inr rfl) (pe_call GF (hr.mono (by decide)) (by rfl) gF kF bF .nil pass0 (pa_cons (pv 0) pa_nil)))
      (pss_cons (ps_for PassesOwn.never rfl (pi_range1 (by rfl) B.range (pa_cons pe_int pa_nil)) (pg_name (i := 2) scLaw.nd rfl (.inl rfl))
      (pss_cons (ps_set (i := 3) scLaw.nd rfl (.inr rfl) (pe_call GSm (hr.mono (by decide)) (by rfl) gSm kSm bSm .nil pass0 (pa_cons (pv 1) pa_nil)))
      (pss_cut (ps_set (i := 4) scLaw.nd rfl (.inr rfl) (pe_callTy call_tuple_of (by rfl) B.tuple (by decide +kernel) (pa_cons (pe_lc (own := [("_law_good", 16)]) (g := gName 16) (tt := tYes) (te := tCall spDraw [] E0 (tCons (tVar 1) (tCons (tOp (rIxL K) (tLst (tCons (tC (.int 60)) (tCons (tC (.int 19)) (tCons (tC (.int 7)) tNil)))) (tOp (rI0 fun i j => .int (i - j)) (tCB (fun xs H Q => ∃ p ys, xs = [V.ref p] ∧ (SqL K H p ys ∨ SqT K H p ys) ∧ Q (.int (ys.length : Nat)) H) (tCons (tOp (rIxT K) (tVar 3) (tC (.int 0))) tNil)) (tC (.int 1)))) tNil))) rfl scLaw.nd (pi_tup (pe_ix ix_tup (pv 3) pe_int (fun _ _ => rfl)))
        (blkOk_by (own := [("_law_good", 16)]) (N := NL) (sc := defScope sLaw) (by decide +kernel)) (fun _ _ _ _ _ => pg_name (i := 16) scLaw.nd rfl (Or.inl rfl)) (fun _ _ _ _ _ => pts_nil)
        (fun _ _ _ _ _ => (pe_call GD (hr.mono (by decide)) (by rfl) gD kD bD .nil pass0 (pa_cons (pv 1) (pa_cons (pe_ix (r := rIxL K) ix_list (pe_lst (pa_cons pe_int (pa_cons pe_int (pa_cons pe_int pa_nil)))) (pe_op op_sub (pe_callB call_len_seq (by rfl) B.len PySem.boot_len (pa_cons (pe_ix (r := rIxT K) ix_tup (pv 3) pe_int (fun _ _ => rfl)) pa_nil)) pe_int) (fun _ _ => rfl)) pa_nil))))) pa_nil)))
      (pss_cons (ps_set (i := 5) scLaw.nd rfl (.inl rfl) (pe_call GH (hr.mono (by decide)) (by rfl) gH kH bH .nil pass0 (pa_cons (pv 3) (pa_cons (pv 4) pa_nil))))
      (pss_cons (ps_set (i := 6) scLaw.nd rfl (.inr rfl) (pe_call GD (hr.mono (by decide)) (by rfl) gD kD bD .nil pass0 (pa_cons (pv 1) (pa_cons (pe_callB call_len_seq (by rfl) B.len PySem.boot_len (pa_cons (pv 3) pa_nil)) pa_nil))))
      (pss_cut (ps_set (i := 7) scLaw.nd rfl (.inl rfl) (pe_call GMi (hr.mono (by decide)) (by rfl) gMi kMi bMi .nil pass0 (pa_cons (pv 4) (pa_cons (pe_ix ix_tup (pv 3) (pv 6) (fun _ _ => rfl)) pa_nil))))
      (pss_cut (ps_if (pt_cmpR op_gt (pe_callB call_len_seq (by rfl) B.len PySem.boot_len (pa_cons (pv 3) pa_nil)) pe_int (nomark _)) (pss_cons (ps_set (i := 8) scLaw.nd rfl (.inl rfl) (pe_call GH (hr.mono (by decide)) (by rfl) gH kH bH .nil pass0 (pa_cons (pe_call GWo (hr.mono (by decide)) (by rfl) gWo kWo bWo .nil pass0 (pa_cons (pv 3) (pa_cons (pv 6) pa_nil))) (pa_cons (pv 4) pa_nil))))
      (pss_cons (ps_set (i := 9) scLaw.nd rfl (.inl rfl) (pe_ifExp (pt_cmpR op_lt (pe_callB (cr_minT rfl hr.units) (by rfl) B.min (by decide +kernel) (pa_cons (pv 7) pa_nil)) pe_int (nomark _)) pe_int (pe_call GH (hr.mono (by decide)) (by rfl) gH kH bH .nil pass0 (pa_cons (pv 3) (pa_cons (pv 7) pa_nil)))))
      (pss_one (ps_if (pt_not (pt_val (pe_call GS (hr.mono (by decide)) (by rfl) gS kS bS .nil pass0 (pa_cons (pv 5) (pa_cons (pe_op op_add (pv 8) (pv 9)) pa_nil))))) pss_never pss_nil)))) pss_nil)
      (pss_cut (ps_if (PW.pt (pw_and (pt_cmpR op_ne (pv 5) pe_int (nomark _)) (pw_and (pt_not (pt_val (pe_callB (cr_any rfl) (by rfl) mAny (by decide +kernel) (pa_cons (pe_lc (own := [("_law_hold_here", 17)]) (g := gName 17) (tt := tYes) rfl scLaw.nd (pi_tup (pv 3))
        (blkOk_by (own := [("_law_hold_here", 17)]) (N := NL) (sc := defScope sLaw) (by decide +kernel)) (fun _ _ _ _ _ => pg_name (i := 17) scLaw.nd rfl (Or.inl rfl)) (fun _ _ _ _ _ => pts_nil)
        (fun _ _ _ _ _ => (pe_call GWn (hr.mono (by decide)) (by rfl) gWn kWn bWn .nil pass0 (pa_cons (pv 17) (pa_cons (pv 4) pa_nil))))) pa_nil)))) (pw_and1 (pt_cmpR op_gt (pe_callB (cr_sumT rfl) (by rfl) B.sum (by decide +kernel) (pa_cons (pv 4) pa_nil)) pe_int (nomark _)))))) pss_never pss_nil)
      (pss_cut (ps_if (pt_not (pt_val (pe_call GS (hr.mono (by decide)) (by rfl) gS kS bS .nil pass0 (pa_cons (pe_call GH (hr.mono (by decide)) (by rfl) gH kH bH .nil pass0 (pa_cons (pv 3) (pa_cons (pe_call GN (hr.mono (by decide)) (by rfl) gN kN bN .nil pass0 (pa_cons (pe_callB call_len_seq (by rfl) B.len PySem.boot_len (pa_cons (pv 4) pa_nil)) pa_nil)) pa_nil))) (pa_cons pe_int pa_nil))))) pss_never pss_nil)
      (pss_cut (ps_par (i := 10) (j := 11) (by rfl) scLaw.nd rfl rfl (by decide) rfl rfl (pa_cons (pe_call GLo (hr.mono (by decide)) (by rfl) gLo kLo bLo .nil pass0 (pa_cons (pv 1) (pa_cons pe_int (pa_cons pe_int (pa_cons pe_int pa_nil))))) (pa_cons (pe_call GLo (hr.mono (by decide)) (by rfl) gLo kLo bLo .nil pass0 (pa_cons (pv 1) (pa_cons (pe_op op_add pe_int (pe_call GD (hr.mono (by decide)) (by rfl) gD kD bD .nil pass0 (pa_cons (pv 1) (pa_cons pe_int pa_nil)))) (pa_cons pe_int (pa_cons pe_int pa_nil))))) pa_nil)) (by rfl))
      (pss_cons (ps_set (i := 12) scLaw.nd rfl (.inl rfl) (pe_tup (pa_cons (pe_call GD (hr.mono (by decide)) (by rfl) gD kD bD .nil pass0 (pa_cons (pv 1) (pa_cons pe_int pa_nil))) pa_nil)))
      (pss_cut (ps_set (i := 13) scLaw.nd rfl (.inl rfl) (pe_callTy call_tuple_of (by rfl) B.tuple (by decide +kernel) (pa_cons (pe_lc (own := [("_law_good", 16)]) (g := gName 16) (tt := tYes) rfl scLaw.nd (pi_tup (pe_ix ix_tup (pv 11) pe_int (fun _ _ => rfl)))
        (blkOk_by (own := [("_law_good", 16)]) (N := NL) (sc := defScope sLaw) (by decide +kernel)) (fun _ _ _ _ _ => pg_name (i := 16) scLaw.nd rfl (Or.inl rfl)) (fun _ _ _ _ _ => pts_nil)
        (fun _ _ _ _ _ => (pe_call GD (hr.mono (by decide)) (by rfl) gD kD bD .nil pass0 (pa_cons (pv 1) (pa_cons pe_int pa_nil))))) pa_nil)))
      (pss_cons (ps_set (i := 14) scLaw.nd rfl (.inl rfl) (pe_op op_mul (pe_call GH (hr.mono (by decide)) (by rfl) gH kH bH .nil pass0 (pa_cons (pv 10) (pa_cons (pv 12) pa_nil))) (pe_call GH (hr.mono (by decide)) (by rfl) gH kH bH .nil pass0 (pa_cons (pv 11) (pa_cons (pv 13) pa_nil)))))
      (pss_cut (ps_if (pt_not (pt_val (pe_call GS (hr.mono (by decide)) (by rfl) gS kS bS .nil pass0 (pa_cons (pe_call GH (hr.mono (by decide)) (by rfl) gH kH bH .nil pass0 (pa_cons (pe_call GBs (hr.mono (by decide)) (by rfl) gBs kBs bBs .nil pass0 (pa_cons (pv 10) (pa_cons (pv 11) pa_nil))) (pa_cons (pe_op op_catA (pv 12) (pv 13)) pa_nil))) (pa_cons (pv 14) pa_nil))))) pss_never pss_nil)
      (pss_one (ps_if (PW.pt (pw_and (pt_cmpR op_lt (pe_callB call_len_seq (by rfl) B.len PySem.boot_len (pa_cons (pv 3) pa_nil)) pe_int (nomark _)) (pw_and1 (pt_cmpR op_lt (pe_callB (cr_sumT rfl) (by rfl) B.sum (by decide +kernel) (pa_cons (pv 4) pa_nil)) pe_int (nomark _))))) (pss_cons (ps_set (i := 15) scLaw.nd rfl (.inl rfl) (pe_callB (cr_sum rfl) (by rfl) B.sum (by decide +kernel) (pa_cons (pe_lc (own := [("_law_k", 18)]) (g := gName 18) rfl scLaw.nd (pi_range1 (by rfl) B.range (pa_cons pe_int pa_nil))
        (blkOk_by (own := [("_law_k", 18)]) (N := NL) (sc := defScope sLaw) (by decide +kernel)) (fun _ _ _ _ _ => pg_name (i := 18) scLaw.nd rfl (Or.inl rfl)) (fun _ _ _ _ _ => pts_one (pt_val (pe_call GWn (hr.mono (by decide)) (by rfl) gWn kWn bWn .nil pass0 (pa_cons (pe_call GTi (hr.mono (by decide)) (by rfl) gTi kTi bTi .nil pass0 (pa_cons (pe_ix (r := rIxT K) ix_tup (pv 3) (pv 6) (fun _ _ => rfl)) (pa_cons (pv 18) pa_nil))) (pa_cons (pv 4) pa_nil)))))
        (fun _ _ _ _ _ => (pe_call GH (hr.mono (by decide)) (by rfl) gH kH bH .nil pass0 (pa_cons (pv 3) (pa_cons (pe_call GMi (hr.mono (by decide)) (by rfl) gMi kMi bMi .nil pass0 (pa_cons (pv 4) (pa_cons (pe_call GTi (hr.mono (by decide)) (by rfl) gTi kTi bTi .nil pass0 (pa_cons (pe_ix (r := rIxT K) ix_tup (pv 3) (pv 6) (fun _ _ => rfl)) (pa_cons (pv 18) pa_nil))) pa_nil))) pa_nil))))) pa_nil)))
      (pss_one (ps_if (pt_not (pt_val (pe_call GS (hr.mono (by decide)) (by rfl) gS kS bS .nil pass0 (pa_cons (pe_call GH (hr.mono (by decide)) (by rfl) gH kH bH .nil pass0 (pa_cons (pe_op op_catA (pv 3) (pe_tup (pa_cons (pe_ix ix_tup (pv 3) (pv 6) (fun _ _ => rfl)) pa_nil))) (pa_cons (pv 4) pa_nil))) (pa_cons (pv 15) pa_nil))))) pss_never pss_nil))) pss_nil))))))))))))))))
      (pss_one (ps_ret pe_bl)))), ?_⟩
    refine ⟨.ref a, rfl, a, ns, rfl, hS, hlen, fun H1 fe cf s1 nf F1 => ?_⟩
    refine ⟨3, rfl, by decide, by decide, ?_⟩
    refine for_range (lo := 0) (n := 3) (fun i σ' H' => (∃ y2 y3 y4 y5 y6 y7 y8 y9 y10 y11 y12 y13 y14 y15, σ' = [some (.ref a), some (.ref fe), y2, y3, y4, y5, y6, y7, y8, y9, y10, y11, y12, y13, y14, y15, none, none, none]) ∧ FeedAt cf H' fe)
      ⟨⟨none, none, none, none, none, none, none, none, none, none, none, none, none, none, rfl⟩, F1⟩ (fun i σ H2 hi hI => ?_) (fun σ H2 _ => q H2)
    obtain ⟨⟨y2, y3, y4, y5, y6, y7, y8, y9, y10, y11, y12, y13, y14, y15, rfl⟩, F2⟩ := hI
    refine ⟨.ref fe, rfl, fe, cf, rfl, F2, fun H3 p ll g m k3 F3 ⟨as, hp, hR⟩ g1 g2 m1 m2 gl => ?_⟩
    obtain ⟨ef, ew⟩ := good_flaw g1 g2 (by omega) (by decide) gl
    have hok := flaw_ok ef
    have hrows := flaw_rows ef
    have R3 : RowsAt H3 p as ll := ⟨hp, hR⟩
    have hlen0 := hR.len
    have h4 : ll.length ≤ 4 := gl.2.1
    obtain ⟨a0, ha0, hh0, hw⟩ := R3.2.head hok.1
    have at0 : atI (as.map V.ref) 0 = some (.ref a0) := atI_nat (j := 0) (by rw [List.getElem?_map, ha0]; rfl)
    have A3 : IntsAt H3 a0 (ll.headD []) := hh0
    -- the bill
    refine ⟨fun σ' H' => ∃ (bl : Addr) (b : List Int), (∃ y2 y5 y6 y7 y8 y9 y10 y11 y12 y13 y14 y15, σ' = [some (.ref a), some (.ref fe), y2, some (.ref p), some (.ref bl), y5, y6, y7, y8, y9, y10, y11, y12, y13, y14, y15, none, none, none]) ∧ S4 cf fe p bl as ll b H' ∧ b.length = width ll ∧ ∀ n ∈ b, 0 ≤ n ∧ n < lim (width ll), ?_, ?_⟩
    · refine ⟨.ref p, rfl, p, _, 0, .ref a0, rfl, rfl, SqT.of R3.1, at0, a0, rfl, ⟨_, SqT.of A3⟩, fun D nD => ?_⟩
      have nf := F3.ne nD
      have nc := F3.neC nD
      refine lc_tup (K := K) (a := a0) (xs := (ll.headD []).map V.int) (PvD fe cf H3 D fun n => 0 ≤ n ∧ n < lim (width ll)) ⟨Kp.new nD, F3.new nD, [], upd_same, rfl, fun n hn => by cases hn⟩ (fun i H' _ hP => SqT.of (A3.kp F3 hP.1)) (fun i x H' hx hP => ?_) (fun H' hP => ?_)
      · have hi : i < (ll.headD []).length := by
          have := (List.getElem?_eq_some_iff.mp hx).1
          rw [List.length_map] at this
          exact this
        refine ⟨rfl, yes (iteT ?_)⟩
        have R' := R3.kp F3 hP.1
        have A' := A3.kp F3 hP.1
        refine ⟨.ref fe, rfl, (by show 3 ≤ sizeLine; decide), fun l nl => ?_⟩
        have sl := same_new (o := .lst [.int 60, .int 19, .int 7]) nl
        refine ⟨.ref p, rfl, p, _, 0, .ref a0, rfl, rfl, SqT.of (R'.same sl).1, at0, a0, _, rfl, .inr (SqT.of (A'.same sl)), _, 1, rfl, rfl, ?_⟩
        rw [List.length_map, hw]
        have hix : atI [V.int 60, V.int 19, V.int 7] ((width ll : Int) - 1) = some (.int (lim (width ll))) := by
          rcases (by omega : width ll = 1 ∨ width ll = 2 ∨ width ll = 3) with e | e | e <;> rw [e] <;> rfl
        have hM : 1 ≤ lim (width ll) := by unfold lim; split <;> (try split) <;> decide
        have hM2 := lim_le (width ll)
        refine ⟨l, _, (width ll : Int) - 1, .int (lim (width ll)), rfl, rfl, SqL.of upd_same, hix, fe, cf, lim (width ll), rfl, hM, by omega, hP.2.1.same sl, fun d H4 d0 d1 k4 F4 => ?_⟩
        exact hP.more nD nf nc (by omega) ((Same.kp sl).trans k4) F4 ⟨d0, d1⟩
      · obtain ⟨kp, F', b, hD, hl, hb⟩ := hP
        rw [List.length_map, hw] at hl
        refine ⟨D, _, rfl, .inl ⟨SqL.of hD, fun t nt => ?_⟩⟩
        have st := same_new (o := .tup (b.map V.int)) nt
        exact ⟨t, b, ⟨_, _, _, _, _, _, _, _, _, _, _, _, rfl⟩, ⟨F'.same st, (R3.kp F3 kp).same st, upd_same⟩, hl, hb⟩
    clear R3 A3
    rintro σ' H4 ⟨bl, b, ⟨y2, y5, y6, y7, y8, y9, y10, y11, y12, y13, y14, y15, rfl⟩, X4, hbl, hbb⟩
    have hlim := lim_le (width ll)
    have hb30 : ∀ n ∈ b, 0 ≤ n ∧ n < G30 := fun n hn => by
      have := hbb n hn
      exact ⟨this.1, by show n < 1000000000000000000000000000000; omega⟩
    have hbox := box_lim hok.2.2.1 hok.2.2.2 hbl hbb
    have hkd : ∀ x ∈ ll, Kd (width ll) x := flaw_kd ef
    refine ⟨.ref p, rfl, .ref bl, rfl, p, bl, as, ll, b, rfl, X4.R, ef, X4.C, hbl, hb30, hbox, fun H5 s5 => ?_⟩
    have X5 := X4.same s5
    refine ⟨.ref fe, rfl, .ref p, rfl, p, _, rfl, .inr (SqT.of X5.R.1), fe, cf, _, rfl, by rw [List.length_map]; omega, by rw [List.length_map]; omega, X5.F, fun d H6 d0 d1 k6 F6 => ?_⟩
    rw [List.length_map, hlen0] at d1
    obtain ⟨i, rfl⟩ : ∃ i : Nat, d = (i : Int) := ⟨d.toNat, by omega⟩
    have hi : i < ll.length := by omega
    have X6 := X5.kp k6 F6
    have hai : as[i]? = some (as[i]'(by omega)) := List.getElem?_eq_getElem (by omega)
    generalize as[i]'(by omega) = ai at hai
    obtain ⟨h, hh1, _⟩ := X6.R.2.at hai
    have hrow : ∀ H', RowsAt H' p as ll → IntsAt H' ai h := fun H' R => by
      obtain ⟨r, q1, q2⟩ := R.2.at hai
      cases Option.some.inj (q1.symm.trans hh1)
      exact q2
    have ati : atI (as.map V.ref) (i : Int) = some (.ref ai) := atI_nat (by rw [List.getElem?_map, hai]; rfl)
    have hhm : h ∈ ll := List.mem_of_getElem? hh1
    have kh := hkd h hhm
    have hhl : b.length = h.length := by rw [hbl, kh.1]
    have hh6 := (hrows h hhm).2
    -- what is left
    refine ⟨fun σ' H' => ∃ lf : Addr, (∃ y2 y8 y9 y10 y11 y12 y13 y14 y15, σ' = [some (.ref a), some (.ref fe), y2, some (.ref p), some (.ref bl), some (.int (cnt ll b : Nat)), some (.int (i : Nat)), some (.ref lf), y8, y9, y10, y11, y12, y13, y14, y15, none, none, none]) ∧ S4 cf fe p bl as ll b H' ∧ IntsAt H' lf (subR b h 1), ?_, ?_⟩
    · refine ⟨.ref bl, rfl, .ref p, rfl, .int (i : Nat), rfl, p, _, (i : Nat), .ref ai, rfl, rfl, SqT.of X6.R.1, ati, bl, ai, b, h, rfl, X6.C, hrow _ X6.R, hhl, by omega, fun H7 lf s7 hlf => ?_⟩
      exact ⟨lf, ⟨_, _, _, _, _, _, _, _, _, rfl⟩, X6.same s7, hlf⟩
    clear X4 X5 X6
    rintro σ' H4 ⟨lf, ⟨y2, y8, y9, y10, y11, y12, y13, y14, y15, rfl⟩, X4, L4⟩
    -- by halves
    refine ⟨fun σ' H' => (∃ y2 y7 y8 y9 y10 y11 y12 y13 y14 y15, σ' = [some (.ref a), some (.ref fe), y2, some (.ref p), some (.ref bl), some (.int (cnt ll b : Nat)), some (.int (i : Nat)), y7, y8, y9, y10, y11, y12, y13, y14, y15, none, none, none]) ∧ S4 cf fe p bl as ll b H', ?_, ?_⟩
    · refine ⟨.ref p, rfl, p, _, rfl, .inr (SqT.of X4.R.1), _, 1, rfl, rfl, _, rfl, ?_⟩
      rw [List.length_map, hlen0]
      refine ite2 (fun c1 => ?_) (fun _ => ⟨⟨_, _, _, _, _, _, _, _, _, _, rfl⟩, X4⟩)
      have c1' : ll.length ≠ 1 := by
        have := of_decide_eq_true c1
        omega
      obtain ⟨ec, wc⟩ := cut_ok ef hi c1'
      refine ⟨.ref p, rfl, .int (i : Nat), rfl, p, i, as, ll, rfl, X4.R, ef, hi, ec, fun H5 pc s5 hpc => ?_⟩
      have X5 := X4.same s5
      refine ⟨.ref bl, rfl, pc, bl, _, _, b, rfl, hpc, ec, X5.C, by rw [wc]; exact hbl, hb30, hbox, fun H6 s6 => ?_⟩
      have X6 := X5.same s6
      have L6 := (L4.same s5).same s6
      have hsl : (subR b h 1).length = width ll := by rw [subR_len hhl, hbl]
      refine ⟨.ref lf, rfl, lf, _, rfl, SqT.of L6, by rw [hsl]; omega, fun mn hmn hmin => ⟨mn, 0, rfl, rfl, _, rfl, ?_⟩⟩
      refine ite_join (fun v H' => v = .int (cnt ll (subR b h 1) : Nat) ∧ Same H6 H') (fun c Q' hq => ?_) (fun c Q' hq => ?_) ?_
      · have c' := of_decide_eq_true c
        refine hq _ _ ⟨?_, Same.refl _⟩
        have : nnB (subR b h 1) = false := by
          cases e : nnB (subR b h 1) with
          | false => rfl
          | true =>
            have := nnB_iff.mp e mn hmn
            omega
        rw [cnt_neg hkd hsl this]
        rfl
      · have c' := of_decide_eq_false c
        have hnn : ∀ n ∈ subR b h 1, 0 ≤ n := fun n hn => by
          have := hmin n hn
          omega
        have hlt := sub_le (L := lim (width ll)) hhl kh.2.1 (fun n hn => (hbb n hn).2)
        refine ⟨.ref p, rfl, .ref lf, rfl, p, lf, as, ll, subR b h 1, rfl, X6.R, ef, L6, hsl, fun n hn => ⟨hnn n hn, ?_⟩, box_lim hok.2.2.1 hok.2.2.2 hsl fun n hn => ⟨hnn n hn, hlt n hn⟩, fun H7 s7 => hq _ _ ⟨rfl, s7⟩⟩
        have := hlt n hn
        show n < 1000000000000000000000000000000
        omega
      rintro _ H7 ⟨rfl, s7⟩
      refine ⟨_, rfl, _, rfl, _, rfl, _, _, rfl, rfl, ?_⟩
      have e := cnt_cut (g := width ll) (b := b) (i := i) hkd hbl hh1
      refine ⟨_, _, rfl, ⟨?_, rfl⟩, fun H8 s8 => ⟨_, rfl, iteF ⟨⟨_, _, _, _, _, _, _, _, _, _, rfl⟩, (X6.same s7).same s8⟩⟩⟩
      show V.int _ = V.int _
      congr 1
      rw [show cnt (cutAt i ll) b = cnt (ll.take i ++ ll.drop (i + 1)) b from rfl]
      omega
    clear X4 L4
    rintro σ' H4 ⟨⟨y2, y7, y8, y9, y10, y11, y12, y13, y14, y15, rfl⟩, X4⟩
    -- something goes in
    refine ⟨fun σ' H' => (∃ y2 y7 y8 y9 y10 y11 y12 y13 y14 y15, σ' = [some (.ref a), some (.ref fe), y2, some (.ref p), some (.ref bl), some (.int (cnt ll b : Nat)), some (.int (i : Nat)), y7, y8, y9, y10, y11, y12, y13, y14, y15, none, none, none]) ∧ S4 cf fe p bl as ll b H', ?_, ?_⟩
    · refine ⟨_, rfl, rfl, _, rfl, ite2 (fun c1 => ?_) (fun _ => ⟨⟨_, _, _, _, _, _, _, _, _, _, rfl⟩, X4⟩)⟩
      have c1' : cnt ll b ≠ 0 := fun z => by
        rw [z] at c1
        exact absurd c1 (by decide)
      refine ⟨.ref p, rfl, p, rfl, ⟨_, SqT.of X4.R.1⟩, fun D nD => ?_⟩
      refine lc_tup (K := K) (a := p) (xs := as.map V.ref) (fun j H' => Same H4 H' ∧ H' D = some (.lst (((ll.take j).map fun r => nnB (subR b r 1)).map V.bl))) ⟨same_new nD, upd_same⟩ (fun j H' _ hP => SqT.of (X4.R.same hP.1).1) (fun j x H' hx ⟨sm, hD⟩ => ?_) (fun H' ⟨sm, hD⟩ => ?_)
      · obtain ⟨aj, haj, rfl⟩ : ∃ n, as[j]? = some n ∧ x = V.ref n := by
          rw [List.getElem?_map] at hx
          cases e : as[j]? with
          | none => rw [e] at hx; cases hx
          | some n => rw [e] at hx; exact ⟨n, rfl, (Option.some.inj hx).symm⟩
        obtain ⟨r, hr1, hr2⟩ := (X4.R.same sm).2.at haj
        have kr := hkd r (List.mem_of_getElem? hr1)
        refine ⟨rfl, yes (iteT ?_)⟩
        refine ⟨.ref aj, rfl, .ref bl, rfl, aj, bl, r, b, rfl, hr2, X4.C.same sm, by rw [kr.1, hbl], by rw [kr.1]; omega, fun H5 s5 => ⟨_, s5 _ _ hD, ?_, same_late (sm.trans s5) nD, ?_⟩⟩
        · rw [List.length_map, List.length_map]
          exact small1000 (Nat.le_trans (List.length_take_le' _ _) (by omega))
        · rw [upd_same, List.take_add_one, hr1, List.map_append, List.map_append]
          rfl
      · rw [List.length_map, List.take_of_length_le (by omega)] at hD
        refine ⟨D, _, rfl, SqL.of hD, _, rfl, ?_⟩
        have X5 := X4.same sm
        cases ea : (ll.map fun r => nnB (subR b r 1)).any id with
        | true => exact iteF ⟨⟨_, _, _, _, _, _, _, _, _, _, rfl⟩, X5⟩
        | false =>
          refine iteT ⟨.ref bl, rfl, bl, b, rfl, SqT.of X5.C, _, 0, rfl, rfl, _, rfl, ite2 (fun c2 => ?_) (fun _ => ⟨⟨_, _, _, _, _, _, _, _, _, _, rfl⟩, X5⟩)⟩
          exfalso
          have c2' : 0 < b.sum := of_decide_eq_true c2
          refine c1' (cnt_some hbl ?_ hkd fun r hr => ?_)
          · cases ez : zeroB b with
            | false => rfl
            | true =>
              have : b.sum = 0 := sum_zeroB (zeroB_iff.mp ez)
              omega
          · cases en : nnB (subR b r 1) with
            | false => rfl
            | true =>
              have : (ll.map fun r => nnB (subR b r 1)).any id = true := List.any_eq_true.mpr ⟨true, List.mem_map.mpr ⟨r, hr, en⟩, rfl⟩
              rw [ea] at this
              cases this
    clear X4
    rintro σ' H4 ⟨⟨y2, y7, y8, y9, y10, y11, y12, y13, y14, y15, rfl⟩, X4⟩
    -- nothing of no goods
    refine ⟨fun σ' H' => (∃ y2 y5 y7 y8 y9 y10 y11 y12 y13 y14 y15, σ' = [some (.ref a), some (.ref fe), y2, some (.ref p), some (.ref bl), y5, some (.int (i : Nat)), y7, y8, y9, y10, y11, y12, y13, y14, y15, none, none, none]) ∧ S4 cf fe p bl as ll b H', ?_, ?_⟩
    · refine ⟨.ref p, rfl, .ref bl, rfl, bl, _, rfl, .inr (SqT.of X4.C), _, rfl, by rw [List.length_map]; omega, by rw [List.length_map]; omega, fun H5 z s5 _ hz => ?_⟩
      rw [List.length_map, Int.toNat_natCast] at hz
      have X5 := X4.same s5
      have hz0 : ∀ n ∈ List.replicate b.length (0 : Int), n = 0 := fun n hn => List.eq_of_mem_replicate hn
      refine ⟨p, z, as, ll, List.replicate b.length 0, rfl, X5.R, ef, hz, by rw [List.length_replicate]; exact hbl, fun n hn => by rw [hz0 n hn]; exact ⟨by decide, by decide⟩, ?_, fun H6 s6 => ?_⟩
      · have hM : 1 ≤ lim (width ll) := by unfold lim; split <;> (try split) <;> decide
        exact box_lim hok.2.2.1 hok.2.2.2 (by rw [List.length_replicate]; exact hbl) fun n hn => by rw [hz0 n hn]; exact ⟨by decide, by omega⟩
      rw [cnt_nought hkd (by rw [List.length_replicate]; exact hbl) (zeroB_iff.mpr hz0)]
      exact ⟨_, _, rfl, ⟨rfl, rfl⟩, fun H7 s7 => ⟨_, rfl, iteF ⟨⟨_, _, _, _, _, _, _, _, _, _, _, rfl⟩, (X5.same s6).same s7⟩⟩⟩
    clear X4
    rintro σ' H4 ⟨⟨y2, y5, y7, y8, y9, y10, y11, y12, y13, y14, y15, rfl⟩, X4⟩
    -- two lots beside one another
    refine ⟨fun σ' H' => ∃ (p1 p2 : Addr) (as1 as2 : List Addr) (l1 l2 : List (List Int)), (∃ y2 y5 y7 y8 y9 y12 y13 y14 y15, σ' = [some (.ref a), some (.ref fe), y2, some (.ref p), some (.ref bl), y5, some (.int (i : Nat)), y7, y8, y9, some (.ref p1), some (.ref p2), y12, y13, y14, y15, none, none, none]) ∧ S4 cf fe p bl as ll b H' ∧ RowsAt H' p1 as1 l1 ∧ RowsAt H' p2 as2 l2 ∧ flaw l1 = none ∧ flaw l2 = none ∧ width l1 = 1 ∧ width l2 ≤ 2 ∧ l1.length ≤ 2 ∧ l2.length ≤ 3, ?_, ?_⟩
    · refine ⟨.ref fe, rfl, fe, cf, 1, 2, 3, rfl, X4.F, by decide, by decide, by decide, by decide, by decide, by decide, fun H5 p1 l1 k5 F5 _ ⟨as1, hp1, hR1⟩ gl1 => ?_⟩
      have X5 := X4.kp k5 F5
      have R1 : RowsAt H5 p1 as1 l1 := ⟨hp1, hR1⟩
      refine ⟨.ref fe, rfl, .ref fe, rfl, fe, cf, 2, rfl, by decide, by decide, X5.F, fun d H6 d0 d1 k6 F6 => ?_⟩
      have X6 := X5.kp k6 F6
      refine ⟨1, d, rfl, rfl, fe, cf, 1 + d, 3, 3, rfl, X6.F, by omega, by omega, by decide, by decide, by decide, by decide, fun H7 p2 l2 k7 F7 _ ⟨as2, hp2, hR2⟩ gl2 => ?_⟩
      obtain ⟨e1, w1⟩ := good_flaw (by decide) (by decide) (by decide) (by decide) gl1
      obtain ⟨e2, w2⟩ := good_flaw (by omega) (by omega) (by decide) (by decide) gl2
      exact ⟨_, _, rfl, p1, p2, as1, as2, l1, l2, ⟨_, _, _, _, _, _, _, _, _, rfl⟩, X6.kp k7 F7, (R1.kp X5.F k6).kp X6.F k7, ⟨hp2, hR2⟩, e1, e2, w1, by omega, gl1.2.1, gl2.2.1⟩
    clear X4
    rintro σ' H4 ⟨p1, p2, as1, as2, l1, l2, ⟨y2, y5, y7, y8, y9, y12, y13, y14, y15, rfl⟩, X4, R1, R2, e1, e2, w1, w2, ln1, ln2⟩
    have ok1 := flaw_ok e1
    have ok2 := flaw_ok e2
    refine ⟨.ref fe, rfl, fe, cf, 16, rfl, by decide, by decide, X4.F, fun x H5 x0 x1 k5 F5 => ⟨sz_1 _, fun t1 nt1 => ?_⟩⟩
    have st1 := same_new (o := .tup [.int x]) nt1
    have X5 := (X4.kp k5 F5).same st1
    have R15 := (R1.kp X4.F k5).same st1
    have R25 := (R2.kp X4.F k5).same st1
    have T15 : IntsAt (upd H5 t1 (.tup [.int x])) t1 [x] := upd_same
    generalize upd H5 t1 (.tup [.int x]) = H6 at X5 R15 R25 T15 ⊢
    refine ⟨fun σ' H' => ∃ (t2 : Addr) (ys : List Int), (∃ y2 y5 y7 y8 y9 y14 y15, σ' = [some (.ref a), some (.ref fe), y2, some (.ref p), some (.ref bl), y5, some (.int (i : Nat)), y7, y8, y9, some (.ref p1), some (.ref p2), some (.ref t1), some (.ref t2), y14, y15, none, none, none]) ∧ S4 cf fe p bl as ll b H' ∧ RowsAt H' p1 as1 l1 ∧ RowsAt H' p2 as2 l2 ∧ IntsAt H' t1 [x] ∧ IntsAt H' t2 ys ∧ ys.length = width l2 ∧ ∀ n ∈ ys, 0 ≤ n ∧ n < 9, ?_, ?_⟩
    · obtain ⟨a2, ha2, hh2, hw2⟩ := R25.2.head ok2.1
      have at2 : atI (as2.map V.ref) 0 = some (.ref a2) := atI_nat (j := 0) (by rw [List.getElem?_map, ha2]; rfl)
      have A6 : IntsAt H6 a2 (l2.headD []) := hh2
      refine ⟨.ref p2, rfl, p2, _, 0, .ref a2, rfl, rfl, SqT.of R25.1, at2, a2, rfl, ⟨_, SqT.of A6⟩, fun D nD => ?_⟩
      have nf := X5.F.ne nD
      have nc := X5.F.neC nD
      refine lc_tup (K := K) (a := a2) (xs := (l2.headD []).map V.int) (PvD fe cf H6 D fun n => 0 ≤ n ∧ n < 9) ⟨Kp.new nD, X5.F.new nD, [], upd_same, rfl, fun n hn => by cases hn⟩ (fun i H' _ hP => SqT.of (A6.kp X5.F hP.1)) (fun i x H' hx hP => ?_) (fun H' hP => ?_)
      · have hi : i < (l2.headD []).length := by
          have := (List.getElem?_eq_some_iff.mp hx).1
          rw [List.length_map] at this
          exact this
        refine ⟨rfl, yes (iteT ?_)⟩
        exact ⟨.ref fe, rfl, fe, cf, 9, rfl, by decide, by decide, hP.2.1, fun d H4 d0 d1 k4 F4 => hP.more nD nf nc (by omega) k4 F4 ⟨d0, d1⟩⟩
      · obtain ⟨kp, F', ys, hD, hl, hb⟩ := hP
        rw [List.length_map, hw2] at hl
        refine ⟨D, _, rfl, .inl ⟨SqL.of hD, fun t nt => ?_⟩⟩
        have st := same_new (o := .tup (ys.map V.int)) nt
        exact ⟨t, ys, ⟨_, _, _, _, _, _, _, rfl⟩, (X5.kp kp F').same st, (R15.kp X5.F kp).same st, (R25.kp X5.F kp).same st, (T15.kp X5.F kp).same st, upd_same, hl, hb⟩
    clear X4 R1 R2 X5 R15 R25 T15
    rintro σ' H4 ⟨t2, ys, ⟨y2, y5, y7, y8, y9, y14, y15, rfl⟩, X4, R1, R2, T1, T2, yl, yb⟩
    have g30 : ∀ n : Int, n < 16 → n < G30 := fun n hn => by
      show n < 1000000000000000000000000000000
      omega
    have bx1 : boxI [x] ≤ 4000 := by
      show 1 * (x + 1) ≤ 4000
      omega
    have bx2 : boxI ys ≤ 4000 := by
      have := box_pow (M := 9) (by decide) (b := ys) (x := 1) (by decide) fun n hn => ⟨(yb n hn).1, by have := (yb n hn).2; omega⟩
      rw [yl] at this
      have e : (1 : Int) * 9 ^ width l2 ≤ 4000 := by
        rcases (by omega : width l2 = 1 ∨ width l2 = 2) with q | q <;> rw [q] <;> decide
      exact Int.le_trans this e
    have bx3 : boxI ([x] ++ ys) ≤ 4000 := by
      have h0 : boxI ([x] ++ ys) = ys.foldl (fun x a => x * (a + 1)) (1 * (x + 1)) := rfl
      rw [h0]
      have := box_pow (M := 9) (by decide) (b := ys) (x := 1 * (x + 1)) (by omega) fun n hn => ⟨(yb n hn).1, by have := (yb n hn).2; omega⟩
      rw [yl] at this
      rcases (by omega : width l2 = 1 ∨ width l2 = 2) with q | q
      · rw [q] at this
        have e9 : (9 : Int) ^ 1 = 9 := by decide
        rw [e9] at this
        omega
      · rw [q] at this
        have e9 : (9 : Int) ^ 2 = 81 := by decide
        rw [e9] at this
        omega
    refine ⟨.ref p1, rfl, .ref t1, rfl, p1, t1, as1, l1, [x], rfl, R1, e1, T1, by rw [w1]; rfl, fun n hn => by rw [List.mem_singleton.mp hn]; exact ⟨x0, g30 x x1⟩, bx1, fun H5 s5 => ?_⟩
    refine ⟨.ref p2, rfl, .ref t2, rfl, p2, t2, as2, l2, ys, rfl, R2.same s5, e2, T2.same s5, yl, fun n hn => ⟨(yb n hn).1, g30 n (by have := (yb n hn).2; omega)⟩, bx2, fun H6 s6 => ?_⟩
    have s56 := s5.trans s6
    have c256 : cnt l1 [x] ≤ 256 := by
      have h1 := cnt_le (g := width l1) (S := 15) (l := l1) (b := [x]) (flaw_kd e1) (by rw [w1]; rfl) (by simp; omega)
      have h2 : (15 + 1) ^ l1.length ≤ (15 + 1) ^ 2 := Nat.pow_le_pow_right (by decide) ln1
      exact Nat.le_trans h1 h2
    refine ⟨_, _, rfl, rfl, .inl ⟨by omega, by omega⟩, ?_⟩
    have X6 := X4.same s56
    have R16 := R1.same s56
    have R26 := R2.same s56
    have T16 := T1.same s56
    have T26 := T2.same s56
    obtain ⟨eb, wb⟩ := bes_flaw e1 e2 (by omega) (by omega)
    refine ⟨fun σ' H' => (∃ y2 y5 y7 y8 y9 y10 y11 y12 y13 y14 y15, σ' = [some (.ref a), some (.ref fe), y2, some (.ref p), some (.ref bl), y5, some (.int (i : Nat)), y7, y8, y9, y10, y11, y12, y13, y14, y15, none, none, none]) ∧ S4 cf fe p bl as ll b H', ?_, ?_⟩
    · refine ⟨.ref p1, rfl, .ref p2, rfl, p1, p2, as1, as2, l1, l2, rfl, R16, R26, e1, e2, eb, fun H7 pb asb s7 hpb => ?_⟩
      refine ⟨.ref t1, rfl, .ref t2, rfl, cat_ints (T16.same s7) (T26.same s7) (by rw [List.length_singleton, yl]; omega) fun tt H8 s8 htt => ?_⟩
      refine ⟨pb, tt, asb, bes l1 l2, [x] ++ ys, rfl, hpb.same s8, eb, htt, by rw [List.length_append, yl, wb, w1]; rfl, fun n hn => ?_, bx3, fun H9 s9 => ?_⟩
      · rcases List.mem_append.mp hn with q | q
        · rw [List.mem_singleton.mp q]
          exact ⟨x0, g30 x x1⟩
        · exact ⟨(yb n q).1, g30 n (by have := (yb n q).2; omega)⟩
      have ecb : cnt (bes l1 l2) ([x] ++ ys) = cnt l1 [x] * cnt l2 ys :=
        cnt_beside (g1 := width l1) (g2 := width l2) (flaw_kd e2) yl (fun n hn => (yb n hn).1) (flaw_kd e1) (by rw [w1]; rfl) (fun n hn => by rw [List.mem_singleton.mp hn]; exact x0)
      refine ⟨_, rfl, _, _, rfl, ⟨?_, rfl⟩, fun H10 s10 => ⟨_, rfl, iteF ⟨⟨_, _, _, _, _, _, _, _, _, _, _, rfl⟩, X6.same (s7.trans (s8.trans (s9.trans s10)))⟩⟩⟩
      show V.int _ = V.int _
      congr 1
      rw [ecb, Int.natCast_mul]
    clear X4 R1 R2 T1 T2 X6 R16 R26 T16 T26
    rintro σ' H4 ⟨⟨y2, y5, y7, y8, y9, y10, y11, y12, y13, y14, y15, rfl⟩, X4⟩
    -- a kind told twice
    have done : ∀ H', S4 cf fe p bl as ll b H' → FeedAt cf H' fe := fun H' X => X.F
    refine ⟨.ref p, rfl, p, _, rfl, .inr (SqT.of X4.R.1), _, 5, rfl, rfl, _, rfl, ite2 (fun _ => ?_) (fun _ => ⟨⟨_, _, _, _, _, _, _, _, _, _, _, _, _, _, rfl⟩, X4.F⟩)⟩
    refine ⟨.ref bl, rfl, bl, b, rfl, SqT.of X4.C, _, 31, rfl, rfl, _, rfl, ite2 (fun c31 => ?_) (fun _ => ⟨⟨_, _, _, _, _, _, _, _, _, _, _, _, _, _, rfl⟩, X4.F⟩)⟩
    have c31' : b.sum < 31 := of_decide_eq_true c31
    have ht : ∀ n ∈ h, -1000 ≤ n ∧ n ≤ 1000 := fun n hn => by
      have := hh6 n hn
      omega
    refine ⟨31, rfl, by decide, by decide, fun D nD => ?_⟩
    refine lc_range (lo := 0) (n := 31) (fun j H' => Same H4 H' ∧ H' D = some (.lst ((((List.range j).filter fun (k : Nat) => nnB (subR b h (k : Int))).map fun (k : Nat) => (cnt ll (subR b h (k : Int)) : Int)).map V.int))) ⟨same_new nD, upd_same⟩ (fun j H' hj ⟨sm, hD⟩ => ?_) (fun H' ⟨sm, hD⟩ => ?_)
    · have ez : (0 : Int) + (j : Nat) = ((j : Nat) : Int) := by omega
      rw [ez]
      have X5 := X4.same sm
      have hcnt : ((List.range j).filter fun (k : Nat) => nnB (subR b h (k : Int))).length ≤ j := Nat.le_trans (List.length_filter_le _ _) (by rw [List.length_range]; exact Nat.le_refl _)
      refine ⟨rfl, ?_⟩
      refine ⟨.ref p, rfl, .int (i : Nat), rfl, p, _, (i : Nat), .ref ai, rfl, rfl, SqT.of X5.R.1, ati, .int (j : Nat), rfl, ai, h, (j : Nat), rfl, hrow _ X5.R, by rw [kh.1]; omega, ht, fun H6 z s6 hz => ?_⟩
      have X6 := X5.same s6
      refine ⟨.ref bl, rfl, z, bl, _, b, rfl, hz, X6.C, by rw [List.length_map, kh.1, hbl], by rw [List.length_map, kh.1]; omega, fun H7 s7 => ⟨_, rfl, ?_⟩⟩
      rw [subR_times]
      have X7 := X6.same s7
      have hD7 := s7 _ _ (s6 _ _ hD)
      have s47 := sm.trans (s6.trans s7)
      have hsl : (subR b h (j : Int)).length = width ll := by rw [subR_len hhl, hbl]
      refine ite2 (fun c => ?_) (fun c => ?_)
      · have hnn := nnB_iff.mp c
        refine ⟨.ref p, rfl, .ref bl, rfl, .ref p, rfl, .int (i : Nat), rfl, p, _, (i : Nat), .ref ai, rfl, rfl, SqT.of X7.R.1, ati, .int (j : Nat), rfl, ai, h, (j : Nat), rfl, hrow _ X7.R, by rw [kh.1]; omega, ht, fun H8 z8 s8 hz8 => ?_⟩
        have X8 := X7.same s8
        refine ⟨bl, z8, b, _, rfl, X8.C, hz8, by rw [List.length_map, kh.1, hbl], by omega, fun H9 z9 s9 hz9 => ?_⟩
        rw [subR_times] at hz9
        have X9 := X8.same s9
        have hlt : ∀ n ∈ subR b h (j : Int), n < lim (width ll) := by
          have := sub_le (L := lim (width ll)) (b := b) (h := h.map fun z => z * (j : Int)) (by rw [List.length_map]; exact hhl) (fun n hn => by
            obtain ⟨y, hy, rfl⟩ := List.mem_map.mp hn
            exact Int.mul_nonneg (kh.2.1 y hy) (by omega)) (fun n hn => (hbb n hn).2)
          rw [subR_times] at this
          exact this
        refine ⟨p, z9, as, ll, subR b h (j : Int), rfl, X9.R, ef, hz9, hsl, fun n hn => ⟨hnn n hn, ?_⟩, box_lim hok.2.2.1 hok.2.2.2 hsl fun n hn => ⟨hnn n hn, hlt n hn⟩, fun H10 s10 => ?_⟩
        · have := hlt n hn
          show n < 1000000000000000000000000000000
          omega
        have s410 := s47.trans (s8.trans (s9.trans s10))
        refine ⟨_, (s8.trans (s9.trans s10)) _ _ hD7, ?_, same_late s410 nD, ?_⟩
        · rw [List.length_map, List.length_map]
          exact small1000 (by omega)
        · rw [upd_same, List.range_succ, List.filter_append, List.filter_cons, if_pos c, List.map_append, List.map_append]
          rfl
      · refine ⟨s47, ?_⟩
        rw [hD7, List.range_succ, List.filter_append, List.filter_cons, if_neg c, List.filter_nil, List.append_nil]
    · have X5 := X4.same sm
      refine ⟨D, _, rfl, SqL.of hD, ?_⟩
      obtain ⟨em, wm⟩ := more_ok ef hhm h4
      refine ⟨.ref p, rfl, .ref p, rfl, .int (i : Nat), rfl, p, _, (i : Nat), .ref ai, rfl, rfl, SqT.of X5.R.1, ati, sz_1 _, fun t nt => ?_⟩
      refine cat_rows (X5.R.same (same_new nt)) (one_row (hrow _ X5.R) nt) (by rw [List.length_singleton]; omega) fun pm H6 s6 hpm => ?_
      have X6 := (X5.same (same_new nt)).same s6
      refine ⟨.ref bl, rfl, pm, bl, _, ll ++ [h], b, rfl, hpm, em, X6.C, by rw [wm]; exact hbl, hb30, hbox, fun H7 s7 => ?_⟩
      have key : (((List.range 31).filter fun (k : Nat) => nnB (subR b h (k : Int))).map fun (k : Nat) => (cnt ll (subR b h (k : Int)) : Int)).sum = (cnt (ll ++ [h]) b : Int) := by
        rw [cnt_last kh (m := 31) hkd hbl (by omega)]
        have f0 : ∀ k : Nat, nnB (subR b h (k : Int)) = false → cnt ll (subR b h (k : Int)) = 0 := fun k hk => cnt_neg hkd (by rw [subR_len hhl, hbl]) hk
        generalize List.range 31 = rs
        induction rs with
        | nil => rfl
        | cons k rs ih =>
          rw [List.filter_cons, List.map_cons, List.sum_cons]
          cases e : nnB (subR b h (k : Int)) with
          | true => rw [if_pos rfl, List.map_cons, List.sum_cons, ih]; omega
          | false => rw [if_neg (by decide), ih, f0 k e]; omega
      refine ⟨_, rfl, _, _, rfl, ⟨?_, rfl⟩, fun H8 s8 => ⟨_, rfl, iteF ⟨⟨_, _, _, _, _, _, _, _, _, _, _, _, _, _, rfl⟩, ((X6.same s7).same s8).F⟩⟩⟩
      rw [key]

end
end HL

namespace HL
open PySem PySem.Spec PyProof.Rows L2
open LamX (Tabs TabS TabB LawAtS)
theorem all_mk {l : PySem.W.OpenLaw} {w : World} {K : PySem.W.Frag} {h : Heap} {mg : Str → Option Value} {fa : Addr} (X : K.In h) (G : h.Ns mainGlobals mg) (hfa : mg "law" = some (.ref fa))
    {f0 : Addr} {oc0 kV0 dc0 pm0 cd0 ct0 : Value} {od0 an0 : Option Addr} {sl0 : Array (Option Value)}
    {f1 : Addr} {oc1 kV1 dc1 pm1 cd1 ct1 : Value} {od1 an1 : Option Addr} {sl1 : Array (Option Value)}
    {f2 : Addr} {oc2 kV2 dc2 pm2 cd2 ct2 : Value} {od2 an2 : Option Addr} {sl2 : Array (Option Value)}
    {f3 : Addr} {oc3 kV3 dc3 pm3 cd3 ct3 : Value} {od3 an3 : Option Addr} {sl3 : Array (Option Value)}
    {f4 : Addr} {oc4 kV4 dc4 pm4 cd4 ct4 : Value} {od4 an4 : Option Addr} {sl4 : Array (Option Value)}
    {f5 : Addr} {oc5 kV5 dc5 pm5 cd5 ct5 : Value} {od5 an5 : Option Addr} {sl5 : Array (Option Value)}
    {f6 : Addr} {oc6 kV6 dc6 pm6 cd6 ct6 : Value} {od6 an6 : Option Addr} {sl6 : Array (Option Value)}
    {f7 : Addr} {oc7 kV7 dc7 pm7 cd7 ct7 : Value} {od7 an7 : Option Addr} {sl7 : Array (Option Value)}
    {f8 : Addr} {oc8 kV8 dc8 pm8 cd8 ct8 : Value} {od8 an8 : Option Addr} {sl8 : Array (Option Value)}
    {f9 : Addr} {oc9 kV9 dc9 pm9 cd9 ct9 : Value} {od9 an9 : Option Addr} {sl9 : Array (Option Value)}
    {f10 : Addr} {oc10 kV10 dc10 pm10 cd10 ct10 : Value} {od10 an10 : Option Addr} {sl10 : Array (Option Value)}
    {f11 : Addr} {oc11 kV11 dc11 pm11 cd11 ct11 : Value} {od11 an11 : Option Addr} {sl11 : Array (Option Value)}
    {f12 : Addr} {oc12 kV12 dc12 pm12 cd12 ct12 : Value} {od12 an12 : Option Addr} {sl12 : Array (Option Value)}
    {f13 : Addr} {oc13 kV13 dc13 pm13 cd13 ct13 : Value} {od13 an13 : Option Addr} {sl13 : Array (Option Value)}
    {f14 : Addr} {oc14 kV14 dc14 pm14 cd14 ct14 : Value} {od14 an14 : Option Addr} {sl14 : Array (Option Value)}
    {f15 : Addr} {oc15 kV15 dc15 pm15 cd15 ct15 : Value} {od15 an15 : Option Addr} {sl15 : Array (Option Value)}
    {f16 : Addr} {oc16 kV16 dc16 pm16 cd16 ct16 : Value} {od16 an16 : Option Addr} {sl16 : Array (Option Value)}
    {f17 : Addr} {oc17 kV17 dc17 pm17 cd17 ct17 : Value} {od17 an17 : Option Addr} {sl17 : Array (Option Value)}
    {f18 : Addr} {oc18 kV18 dc18 pm18 cd18 ct18 : Value} {od18 an18 : Option Addr} {sl18 : Array (Option Value)}
    {f19 : Addr} {oc19 kV19 dc19 pm19 cd19 ct19 : Value} {od19 an19 : Option Addr} {sl19 : Array (Option Value)}
    {f20 : Addr} {oc20 kV20 dc20 pm20 cd20 ct20 : Value} {od20 an20 : Option Addr} {sl20 : Array (Option Value)}
    {f21 : Addr} {oc21 kV21 dc21 pm21 cd21 ct21 : Value} {od21 an21 : Option Addr} {sl21 : Array (Option Value)}
    {f22 : Addr} {oc22 kV22 dc22 pm22 cd22 ct22 : Value} {od22 an22 : Option Addr} {sl22 : Array (Option Value)}
    {f23 : Addr} {oc23 kV23 dc23 pm23 cd23 ct23 : Value} {od23 an23 : Option Addr} {sl23 : Array (Option Value)}
    {fLe TLe : Addr} {ocLe kVLe dcLe pmLe cdLe ctLe ocTLe : Value} {odLe anLe odTLe : Option Addr} {slLe slTLe : Array (Option Value)} {tkLe : Tok} {nTLe : Nat}
    {t6 : Tok}
    {t5 : Tok}
    {t3 : Tok}
    {t30 : Tok}
    {t4000 : Tok}
    (a0 : PySem.W.nsIn K mainGlobals "is_hold" = some (some (.ref f0)))
    (l0 : K.lookup f0 = some ⟨oc0, od0, .func (PySem.W.fnOf "is_hold" "is_hold" (defArgs sIsHold) (defBody sIsHold) (defScope sIsHold) .none kV0 dc0 pm0 an0 cd0 ct0), sl0⟩)
    (c0 : PySem.W.codeIn K cd0 "is_hold" = true)
    (k0 : PySem.W.keepIn K (.ref f0) = true)
    (a1 : PySem.W.nsIn K mainGlobals "look_lot" = some (some (.ref f1)))
    (l1 : K.lookup f1 = some ⟨oc1, od1, .func (PySem.W.fnOf "look_lot" "look_lot" (defArgs sLook) (defBody sLook) (defScope sLook) .none kV1 dc1 pm1 an1 cd1 ct1), sl1⟩)
    (c1 : PySem.W.codeIn K cd1 "look_lot" = true)
    (k1 : PySem.W.keepIn K (.ref f1) = true)
    (a2 : PySem.W.nsIn K mainGlobals "goods_of" = some (some (.ref f2)))
    (l2 : K.lookup f2 = some ⟨oc2, od2, .func (PySem.W.fnOf "goods_of" "goods_of" (defArgs sGoods) (defBody sGoods) (defScope sGoods) .none kV2 dc2 pm2 an2 cd2 ct2), sl2⟩)
    (c2 : PySem.W.codeIn K cd2 "goods_of" = true)
    (k2 : PySem.W.keepIn K (.ref f2) = true)
    (a3 : PySem.W.nsIn K mainGlobals "first_wrong" = some (some (.ref f3)))
    (l3 : K.lookup f3 = some ⟨oc3, od3, .func (PySem.W.fnOf "first_wrong" "first_wrong" (defArgs sFirst) (defBody sFirst) (defScope sFirst) .none kV3 dc3 pm3 an3 cd3 ct3), sl3⟩)
    (c3 : PySem.W.codeIn K cd3 "first_wrong" = true)
    (k3 : PySem.W.keepIn K (.ref f3) = true)
    (a4 : PySem.W.nsIn K mainGlobals "look_bill" = some (some (.ref f4)))
    (l4 : K.lookup f4 = some ⟨oc4, od4, .func (PySem.W.fnOf "look_bill" "look_bill" (defArgs sLookBill) (defBody sLookBill) (defScope sLookBill) .none kV4 dc4 pm4 an4 cd4 ct4), sl4⟩)
    (c4 : PySem.W.codeIn K cd4 "look_bill" = true)
    (k4 : PySem.W.keepIn K (.ref f4) = true)
    (a5 : PySem.W.nsIn K mainGlobals "without" = some (some (.ref f5)))
    (l5 : K.lookup f5 = some ⟨oc5, od5, .func (PySem.W.fnOf "without" "without" (defArgs sWithout) (defBody sWithout) (defScope sWithout) .none kV5 dc5 pm5 an5 cd5 ct5), sl5⟩)
    (c5 : PySem.W.codeIn K cd5 "without" = true)
    (k5 : PySem.W.keepIn K (.ref f5) = true)
    (a6 : PySem.W.nsIn K mainGlobals "beside" = some (some (.ref f6)))
    (l6 : K.lookup f6 = some ⟨oc6, od6, .func (PySem.W.fnOf "beside" "beside" (defArgs sBeside) (defBody sBeside) (defScope sBeside) .none kV6 dc6 pm6 an6 cd6 ct6), sl6⟩)
    (c6 : PySem.W.codeIn K cd6 "beside" = true)
    (k6 : PySem.W.keepIn K (.ref f6) = true)
    (a7 : PySem.W.nsIn K mainGlobals "look_box" = some (some (.ref f7)))
    (l7 : K.lookup f7 = some ⟨oc7, od7, .func (PySem.W.fnOf "look_box" "look_box" (defArgs sBox) (defBody sBox) (defScope sBox) .none kV7 dc7 pm7 an7 cd7 ct7), sl7⟩)
    (c7 : PySem.W.codeIn K cd7 "look_box" = true)
    (k7 : PySem.W.keepIn K (.ref f7) = true)
    (a8 : PySem.W.nsIn K mainGlobals "look_both" = some (some (.ref f8)))
    (l8 : K.lookup f8 = some ⟨oc8, od8, .func (PySem.W.fnOf "look_both" "look_both" (defArgs sBoth) (defBody sBoth) (defScope sBoth) .none kV8 dc8 pm8 an8 cd8 ct8), sl8⟩)
    (c8 : PySem.W.codeIn K cd8 "look_both" = true)
    (k8 : PySem.W.keepIn K (.ref f8) = true)
    (a9 : PySem.W.nsIn K mainGlobals "cells_of" = some (some (.ref f9)))
    (l9 : K.lookup f9 = some ⟨oc9, od9, .func (PySem.W.fnOf "cells_of" "cells_of" (defArgs sCells) (defBody sCells) (defScope sCells) .none kV9 dc9 pm9 an9 cd9 ct9), sl9⟩)
    (c9 : PySem.W.codeIn K cd9 "cells_of" = true)
    (k9 : PySem.W.keepIn K (.ref f9) = true)
    (a10 : PySem.W.nsIn K mainGlobals "with_one_more" = some (some (.ref f10)))
    (l10 : K.lookup f10 = some ⟨oc10, od10, .func (PySem.W.fnOf "with_one_more" "with_one_more" (defArgs sOneMore) (defBody sOneMore) (defScope sOneMore) .none kV10 dc10 pm10 an10 cd10 ct10), sl10⟩)
    (c10 : PySem.W.codeIn K cd10 "with_one_more" = true)
    (k10 : PySem.W.keepIn K (.ref f10) = true)
    (a11 : PySem.W.nsIn K mainGlobals "tables_of" = some (some (.ref f11)))
    (l11 : K.lookup f11 = some ⟨oc11, od11, .func (PySem.W.fnOf "tables_of" "tables_of" (defArgs sTables) (defBody sTables) (defScope sTables) .none kV11 dc11 pm11 an11 cd11 ct11), sl11⟩)
    (c11 : PySem.W.codeIn K cd11 "tables_of" = true)
    (k11 : PySem.W.keepIn K (.ref f11) = true)
    (a12 : PySem.W.nsIn K mainGlobals "how_many" = some (some (.ref f12)))
    (l12 : K.lookup f12 = some ⟨oc12, od12, .func (PySem.W.fnOf "how_many" "how_many" (defArgs sHowMany) (defBody sHowMany) (defScope sHowMany) .none kV12 dc12 pm12 an12 cd12 ct12), sl12⟩)
    (c12 : PySem.W.codeIn K cd12 "how_many" = true)
    (k12 : PySem.W.keepIn K (.ref f12) = true)
    (a13 : PySem.W.nsIn K mainGlobals "_law_feed" = some (some (.ref f13)))
    (l13 : K.lookup f13 = some ⟨oc13, od13, .func (PySem.W.fnOf "_law_feed" "_law_feed" (defArgs sFeed) (defBody sFeed) (defScope sFeed) .none kV13 dc13 pm13 an13 cd13 ct13), sl13⟩)
    (c13 : PySem.W.codeIn K cd13 "_law_feed" = true)
    (k13 : PySem.W.keepIn K (.ref f13) = true)
    (a14 : PySem.W.nsIn K mainGlobals "_law_draw" = some (some (.ref f14)))
    (l14 : K.lookup f14 = some ⟨oc14, od14, .func (PySem.W.fnOf "_law_draw" "_law_draw" (defArgs sDraw) (defBody sDraw) (defScope sDraw) .none kV14 dc14 pm14 an14 cd14 ct14), sl14⟩)
    (c14 : PySem.W.codeIn K cd14 "_law_draw" = true)
    (k14 : PySem.W.keepIn K (.ref f14) = true)
    (a15 : PySem.W.nsIn K mainGlobals "_law_same" = some (some (.ref f15)))
    (l15 : K.lookup f15 = some ⟨oc15, od15, .func (PySem.W.fnOf "_law_same" "_law_same" (defArgs sSame) (defBody sSame) (defScope sSame) .none kV15 dc15 pm15 an15 cd15 ct15), sl15⟩)
    (c15 : PySem.W.codeIn K cd15 "_law_same" = true)
    (k15 : PySem.W.keepIn K (.ref f15) = true)
    (a16 : PySem.W.nsIn K mainGlobals "_law_hold" = some (some (.ref f16)))
    (l16 : K.lookup f16 = some ⟨oc16, od16, .func (PySem.W.fnOf "_law_hold" "_law_hold" (defArgs sHold) (defBody sHold) (defScope sHold) .none kV16 dc16 pm16 an16 cd16 ct16), sl16⟩)
    (c16 : PySem.W.codeIn K cd16 "_law_hold" = true)
    (k16 : PySem.W.keepIn K (.ref f16) = true)
    (a17 : PySem.W.nsIn K mainGlobals "_law_lot" = some (some (.ref f17)))
    (l17 : K.lookup f17 = some ⟨oc17, od17, .func (PySem.W.fnOf "_law_lot" "_law_lot" (defArgs sLot) (defBody sLot) (defScope sLot) .none kV17 dc17 pm17 an17 cd17 ct17), sl17⟩)
    (c17 : PySem.W.codeIn K cd17 "_law_lot" = true)
    (k17 : PySem.W.keepIn K (.ref f17) = true)
    (a18 : PySem.W.nsIn K mainGlobals "_law_small_lot" = some (some (.ref f18)))
    (l18 : K.lookup f18 = some ⟨oc18, od18, .func (PySem.W.fnOf "_law_small_lot" "_law_small_lot" (defArgs sSmall) (defBody sSmall) (defScope sSmall) .none kV18 dc18 pm18 an18 cd18 ct18), sl18⟩)
    (c18 : PySem.W.codeIn K cd18 "_law_small_lot" = true)
    (k18 : PySem.W.keepIn K (.ref f18) = true)
    (a19 : PySem.W.nsIn K mainGlobals "_law_minus" = some (some (.ref f19)))
    (l19 : K.lookup f19 = some ⟨oc19, od19, .func (PySem.W.fnOf "_law_minus" "_law_minus" (defArgs sMinus) (defBody sMinus) (defScope sMinus) .none kV19 dc19 pm19 an19 cd19 ct19), sl19⟩)
    (c19 : PySem.W.codeIn K cd19 "_law_minus" = true)
    (k19 : PySem.W.keepIn K (.ref f19) = true)
    (a20 : PySem.W.nsIn K mainGlobals "_law_times" = some (some (.ref f20)))
    (l20 : K.lookup f20 = some ⟨oc20, od20, .func (PySem.W.fnOf "_law_times" "_law_times" (defArgs sTimes) (defBody sTimes) (defScope sTimes) .none kV20 dc20 pm20 an20 cd20 ct20), sl20⟩)
    (c20 : PySem.W.codeIn K cd20 "_law_times" = true)
    (k20 : PySem.W.keepIn K (.ref f20) = true)
    (a21 : PySem.W.nsIn K mainGlobals "_law_within" = some (some (.ref f21)))
    (l21 : K.lookup f21 = some ⟨oc21, od21, .func (PySem.W.fnOf "_law_within" "_law_within" (defArgs sWithin) (defBody sWithin) (defScope sWithin) .none kV21 dc21 pm21 an21 cd21 ct21), sl21⟩)
    (c21 : PySem.W.codeIn K cd21 "_law_within" = true)
    (k21 : PySem.W.keepIn K (.ref f21) = true)
    (a22 : PySem.W.nsIn K mainGlobals "_law_noughts" = some (some (.ref f22)))
    (l22 : K.lookup f22 = some ⟨oc22, od22, .func (PySem.W.fnOf "_law_noughts" "_law_noughts" (defArgs sNoughts) (defBody sNoughts) (defScope sNoughts) .none kV22 dc22 pm22 an22 cd22 ct22), sl22⟩)
    (c22 : PySem.W.codeIn K cd22 "_law_noughts" = true)
    (k22 : PySem.W.keepIn K (.ref f22) = true)
    (a23 : PySem.W.nsIn K mainGlobals "law" = some (some (.ref f23)))
    (l23 : K.lookup f23 = some ⟨oc23, od23, .func (PySem.W.fnOf "law" "law" (defArgs sLaw) (defBody sLaw) (defScope sLaw) .none kV23 dc23 pm23 an23 cd23 ct23), sl23⟩)
    (c23 : PySem.W.codeIn K cd23 "law" = true)
    (k23 : PySem.W.keepIn K (.ref f23) = true)
    (aLe : PySem.W.nsIn K mainGlobals "less" = some (some (.ref fLe)))
    (lLe : K.lookup fLe = some ⟨ocLe, odLe, .func (PySem.W.fnOf "less" "less" (defArgs sLess) (defBody sLess) (defScope sLess) (.ref TLe) kVLe dcLe pmLe anLe cdLe ctLe), slLe⟩)
    (cLe : PySem.W.codeIn K cdLe "less" = true)
    (kLe : PySem.W.keepIn K (.ref fLe) = true)
    (lTLe : K.lookup TLe = some ⟨ocTLe, odTLe, .seq #[.int 1 tkLe] nTLe, slTLe⟩)
    (v6 : PySem.W.nsIn K mainGlobals "MOST_HOLD" = some (some (.int 6 t6)))
    (v5 : PySem.W.nsIn K mainGlobals "MOST_KINDS" = some (some (.int 5 t5)))
    (v3 : PySem.W.nsIn K mainGlobals "MOST_GOODS" = some (some (.int 3 t3)))
    (v30 : PySem.W.nsIn K mainGlobals "GREAT" = some (some (.int G30 t30)))
    (v4000 : PySem.W.nsIn K mainGlobals "MOST_BOX" = some (some (.int 4000 t4000)))
    (z_len : PySem.W.nsIn K mainGlobals "len" = some none)
    (z_list : PySem.W.nsIn K mainGlobals "list" = some none)
    (z_tuple : PySem.W.nsIn K mainGlobals "tuple" = some none)
    (z_dict : PySem.W.nsIn K mainGlobals "dict" = some none)
    (z_str : PySem.W.nsIn K mainGlobals "str" = some none)
    (z_int : PySem.W.nsIn K mainGlobals "int" = some none)
    (z_bool : PySem.W.nsIn K mainGlobals "bool" = some none)
    (z_isinstance : PySem.W.nsIn K mainGlobals "isinstance" = some none)
    (z_all : PySem.W.nsIn K mainGlobals "all" = some none)
    (z_range : PySem.W.nsIn K mainGlobals "range" = some none)
    (z_sum : PySem.W.nsIn K mainGlobals "sum" = some none)
    (z_min : PySem.W.nsIn K mainGlobals "min" = some none)
    (z_max : PySem.W.nsIn K mainGlobals "max" = some none)
    (z_enumerate : PySem.W.nsIn K mainGlobals "enumerate" = some none)
    (z_zip : PySem.W.nsIn K mainGlobals "zip" = some none)
    (z_any : PySem.W.nsIn K mainGlobals "any" = some none)
    (z_reversed : PySem.W.nsIn K mainGlobals "reversed" = some none)
    : LawAtS l w K CX0 9 63 "_law_script" mg fa h := by
  have e := hfa.symm.trans (PySem.W.mg_of X G a23)
  cases e
  have F0 := fun_mk (st := sIsHold) l0 c0 k0
  have b0 := F0.binds (ps := ["hold", "goods"]) fun _ _ _ _ _ _ us hl => match us, hl with | [_, _], _ => rfl
  have g0 := PySem.W.mg_of X G a0
  have F1 := fun_mk (st := sLook) l1 c1 k1
  have b1 := F1.binds (ps := ["lot"]) fun _ _ _ _ _ _ us hl => match us, hl with | [_], _ => rfl
  have g1 := PySem.W.mg_of X G a1
  have F2 := fun_mk (st := sGoods) l2 c2 k2
  have b2 := F2.binds (ps := ["lot"]) fun _ _ _ _ _ _ us hl => match us, hl with | [_], _ => rfl
  have g2 := PySem.W.mg_of X G a2
  have F3 := fun_mk (st := sFirst) l3 c3 k3
  have b3 := F3.binds (ps := ["row", "many"]) fun _ _ _ _ _ _ us hl => match us, hl with | [_, _], _ => rfl
  have g3 := PySem.W.mg_of X G a3
  have F4 := fun_mk (st := sLookBill) l4 c4 k4
  have b4 := F4.binds (ps := ["lot", "bill"]) fun _ _ _ _ _ _ us hl => match us, hl with | [_, _], _ => rfl
  have g4 := PySem.W.mg_of X G a4
  have F5 := fun_mk (st := sWithout) l5 c5 k5
  have b5 := F5.binds (ps := ["lot", "kind"]) fun _ _ _ _ _ _ us hl => match us, hl with | [_, _], _ => rfl
  have g5 := PySem.W.mg_of X G a5
  have F6 := fun_mk (st := sBeside) l6 c6 k6
  have b6 := F6.binds (ps := ["one", "other"]) fun _ _ _ _ _ _ us hl => match us, hl with | [_, _], _ => rfl
  have g6 := PySem.W.mg_of X G a6
  have F7 := fun_mk (st := sBox) l7 c7 k7
  have b7 := F7.binds (ps := ["bill"]) fun _ _ _ _ _ _ us hl => match us, hl with | [_], _ => rfl
  have g7 := PySem.W.mg_of X G a7
  have F8 := fun_mk (st := sBoth) l8 c8 k8
  have b8 := F8.binds (ps := ["lot", "bill"]) fun _ _ _ _ _ _ us hl => match us, hl with | [_, _], _ => rfl
  have g8 := PySem.W.mg_of X G a8
  have F9 := fun_mk (st := sCells) l9 c9 k9
  have b9 := F9.binds (ps := ["bill"]) fun _ _ _ _ _ _ us hl => match us, hl with | [_], _ => rfl
  have g9 := PySem.W.mg_of X G a9
  have F10 := fun_mk (st := sOneMore) l10 c10 k10
  have b10 := F10.binds (ps := ["cells", "table", "hold"]) fun _ _ _ _ _ _ us hl => match us, hl with | [_, _, _], _ => rfl
  have g10 := PySem.W.mg_of X G a10
  have F11 := fun_mk (st := sTables) l11 c11 k11
  have b11 := F11.binds (ps := ["lot", "bill"]) fun _ _ _ _ _ _ us hl => match us, hl with | [_, _], _ => rfl
  have g11 := PySem.W.mg_of X G a11
  have F12 := fun_mk (st := sHowMany) l12 c12 k12
  have b12 := F12.binds (ps := ["lot", "bill"]) fun _ _ _ _ _ _ us hl => match us, hl with | [_, _], _ => rfl
  have g12 := PySem.W.mg_of X G a12
  have F13 := fun_mk (st := sFeed) l13 c13 k13
  have b13 := F13.binds (ps := ["_law_script"]) fun _ _ _ _ _ _ us hl => match us, hl with | [_], _ => rfl
  have g13 := PySem.W.mg_of X G a13
  have F14 := fun_mk (st := sDraw) l14 c14 k14
  have b14 := F14.binds (ps := ["_law_feed_here", "_law_many"]) fun _ _ _ _ _ _ us hl => match us, hl with | [_, _], _ => rfl
  have g14 := PySem.W.mg_of X G a14
  have F15 := fun_mk (st := sSame) l15 c15 k15
  have b15 := F15.binds (ps := ["_law_found", "_law_due"]) fun _ _ _ _ _ _ us hl => match us, hl with | [_, _], _ => rfl
  have g15 := PySem.W.mg_of X G a15
  have F16 := fun_mk (st := sHold) l16 c16 k16
  have b16 := F16.binds (ps := ["_law_feed_here", "_law_goods", "_law_most"]) fun _ _ _ _ _ _ us hl => match us, hl with | [_, _, _], _ => rfl
  have g16 := PySem.W.mg_of X G a16
  have F17 := fun_mk (st := sLot) l17 c17 k17
  have b17 := F17.binds (ps := ["_law_feed_here", "_law_goods", "_law_kinds", "_law_most"]) fun _ _ _ _ _ _ us hl => match us, hl with | [_, _, _, _], _ => rfl
  have g17 := PySem.W.mg_of X G a17
  have F18 := fun_mk (st := sSmall) l18 c18 k18
  have b18 := F18.binds (ps := ["_law_feed_here"]) fun _ _ _ _ _ _ us hl => match us, hl with | [_], _ => rfl
  have g18 := PySem.W.mg_of X G a18
  have F19 := fun_mk (st := sMinus) l19 c19 k19
  have b19 := F19.binds (ps := ["_law_one", "_law_other"]) fun _ _ _ _ _ _ us hl => match us, hl with | [_, _], _ => rfl
  have g19 := PySem.W.mg_of X G a19
  have F20 := fun_mk (st := sTimes) l20 c20 k20
  have b20 := F20.binds (ps := ["_law_row", "_law_many"]) fun _ _ _ _ _ _ us hl => match us, hl with | [_, _], _ => rfl
  have g20 := PySem.W.mg_of X G a20
  have F21 := fun_mk (st := sWithin) l21 c21 k21
  have b21 := F21.binds (ps := ["_law_one", "_law_other"]) fun _ _ _ _ _ _ us hl => match us, hl with | [_, _], _ => rfl
  have g21 := PySem.W.mg_of X G a21
  have F22 := fun_mk (st := sNoughts) l22 c22 k22
  have b22 := F22.binds (ps := ["_law_many"]) fun _ _ _ _ _ _ us hl => match us, hl with | [_], _ => rfl
  have g22 := PySem.W.mg_of X G a22
  have F23 := fun_mk (st := sLaw) l23 c23 k23
  have b23 := F23.binds (ps := ["_law_script"]) fun _ _ _ _ _ _ us hl => match us, hl with | [_], _ => rfl
  have g23 := PySem.W.mg_of X G a23
  have FLe : FunD K "less" "less" (defArgs sLess) (defBody sLess) (defScope sLess) [.int 1] [] fLe (PySem.W.fnOf "less" "less" (defArgs sLess) (defBody sLess) (defScope sLess) (.ref TLe) kVLe dcLe pmLe anLe cdLe ctLe) :=
    ⟨⟨ocLe, odLe, .ref TLe, kVLe, dcLe, pmLe, anLe, cdLe, ctLe, slLe, rfl, lLe, cLe, .inr ⟨by simp, TLe, _, [.int 1 tkLe], nTLe, rfl, lTLe, rfl, .cons ⟨_, rfl⟩ .nil⟩, .inl rfl⟩, kLe⟩
  obtain ⟨dsLe, rdLe, bLe⟩ := FLe.binds1 (ps := ["row", "other", "times"]) 2 0 (by simp) rfl (fun T kV doc pm an cdv ct us its h1 h2 => by
    match us, its, h1, h2 with
    | [u0, u1], [k1], _, _ => exact ⟨_, rfl, rfl⟩)
  obtain ⟨ttLe, edLe⟩ : ∃ t, dsLe = [.int 1 t] := by
    cases rdLe with
    | cons r t =>
      cases t
      obtain ⟨q, rfl⟩ := r
      exact ⟨q, rfl⟩
  subst edLe
  have B : Bl mg := ⟨PySem.W.mg_none_of X G z_len, PySem.W.mg_none_of X G z_list, PySem.W.mg_none_of X G z_tuple, PySem.W.mg_none_of X G z_dict, PySem.W.mg_none_of X G z_str, PySem.W.mg_none_of X G z_int, PySem.W.mg_none_of X G z_bool, PySem.W.mg_none_of X G z_isinstance, PySem.W.mg_none_of X G z_all, PySem.W.mg_none_of X G z_range, PySem.W.mg_none_of X G z_sum, PySem.W.mg_none_of X G z_min, PySem.W.mg_none_of X G z_max, PySem.W.mg_none_of X G z_enumerate⟩
  have M : Consts mg := ⟨⟨_, PySem.W.mg_of X G v6⟩, ⟨_, PySem.W.mg_of X G v5⟩, ⟨_, PySem.W.mg_of X G v3⟩⟩
  refine ⟨PySem.W.fnOf "law" "law" (defArgs sLaw) (defBody sLaw) (defScope sLaw) .none kV23 dc23 pm23 an23 cd23 ct23, [], spLaw K, (fun p hp => by cases hp), (fun p hp => by cases hp), (fun p hp => by cases hp), fun s u => .of_eq rfl, fun H a ns hl _ hH hS => ⟨a, ns, rfl, hS, hl, fun _ => rfl⟩, fun base KB GB TB => ?_⟩
  · have nothing := True.intro
    have cDraw : Cal l.prog w K mg base CX0 1 "_law_draw" ["_law_feed_here", "_law_many"] spDraw := ⟨⟨f14, _, ok_draw F14 B.len, g14, k14, b14⟩⟩
    have cHold : Cal l.prog w K mg base CX0 2 "_law_hold" ["_law_feed_here", "_law_goods", "_law_most"] spHold := ⟨⟨f16, _, ok_hold F16 B cDraw, g16, k16, b16⟩⟩
    have cLot : Cal l.prog w K mg base CX0 3 "_law_lot" ["_law_feed_here", "_law_goods", "_law_kinds", "_law_most"] spLot := ⟨⟨f17, _, ok_lot F17 B cDraw cHold, g17, k17, b17⟩⟩
    have cIH : Cal l.prog w K mg base CX0 1 "is_hold" ["hold", "goods"] spIsHold := ⟨⟨f0, _, ok_isHold F0 B M, g0, k0, b0⟩⟩
    have cLk : Cal l.prog w K mg base CX0 2 "look_lot" ["lot"] spLook0 := ⟨⟨f1, _, ok_look0 F1 B M cIH, g1, k1, b1⟩⟩
    have cGo : Cal l.prog w K mg base CX0 3 "goods_of" ["lot"] spGoods0 := ⟨⟨f2, _, ok_goods0 F2 B cLk, g2, k2, b2⟩⟩
    have cFi : Cal l.prog w K mg base CX0 1 "first_wrong" ["row", "many"] spFirst0 := ⟨⟨f3, _, ok_first0 F3 B ⟨_, PySem.W.mg_of X G v30⟩, g3, k3, b3⟩⟩
    have cLB : Cal l.prog w K mg base CX0 4 "look_bill" ["lot", "bill"] spLookBill0 := ⟨⟨f4, _, ok_lookBill0 F4 cFi cGo, g4, k4, b4⟩⟩
    have cBx : Cal l.prog w K mg base CX0 1 "look_box" ["bill"] spBox0 := ⟨⟨f7, _, ok_box0 F7 ⟨_, PySem.W.mg_of X G v4000⟩, g7, k7, b7⟩⟩
    have cBo : Cal l.prog w K mg base CX0 5 "look_both" ["lot", "bill"] spBoth0 := ⟨⟨f8, _, ok_both0 F8 cLB cBx, g8, k8, b8⟩⟩
    have cCe : Cal l.prog w K mg base CX0 1 "cells_of" ["bill"] spCells := ⟨⟨f9, _, ok_cells F9 B, g9, k9, b9⟩⟩
    have cLe : CalLess l.prog w K mg base := ⟨fLe, _, ttLe, ok_less FLe B (PySem.W.mg_none_of X G z_zip), PySem.W.mg_of X G aLe, kLe, bLe⟩
    have cOM : Cal l.prog w K mg base CX0 2 "with_one_more" ["cells", "table", "hold"] spOneMore := ⟨⟨f10, _, ok_oneMore F10 cLe, g10, k10, b10⟩⟩
    have cTa : Cal l.prog w K mg base CX0 3 "tables_of" ["lot", "bill"] spTables := ⟨⟨f11, _, ok_tables F11 B (PySem.W.mg_none_of X G z_reversed) cCe cOM, g11, k11, b11⟩⟩
    have T : Txt l.prog w K mg base := {
        B := B
        any := (PySem.W.mg_none_of X G z_any)
        feed := ⟨⟨f13, _, ok_feed F13 B.list, g13, k13, b13⟩⟩
        draw := cDraw
        same := ⟨⟨f15, _, ok_same F15 B g15 b15 0, g15, k15, b15⟩⟩
        lot := cLot
        small := ⟨⟨f18, _, ok_small F18 cDraw cLot, g18, k18, b18⟩⟩
        mi := ⟨⟨f19, _, ok_minus F19 B, g19, k19, b19⟩⟩
        ti := ⟨⟨f20, _, ok_times F20 B, g20, k20, b20⟩⟩
        wn := ⟨⟨f21, _, ok_within F21 B, g21, k21, b21⟩⟩
        no := ⟨⟨f22, _, ok_noughts F22, g22, k22, b22⟩⟩
        hm := ⟨⟨f12, _, ok_howMany F12 cBo cTa, g12, k12, b12⟩⟩
        wo := ⟨⟨f5, _, ok_without0 F5 B cLk, g5, k5, b5⟩⟩
        bs := ⟨⟨f6, _, ok_beside0 F6 B cLk cGo, g6, k6, b6⟩⟩ }
    exact ok_law F23 T
end HL

open PySem PySem.W PyProof.Rows
set_option maxHeartbeats 0 in
theorem PySem.Challenge.cw_hamperlot_k10_whole_counts_by_halves_holds : PySem.Challenge.rw_hamperlot_k10_whole_counts_by_halves.Holds := by
  w_on; o_law; k_head; (case hw => w_witness2)
  k_fill
  refine LamX.walk_ofTs (l := PySem.Challenge.rw_hamperlot_k10_whole_counts_by_halves) (n := 63) (k := 9) (x := "_law_script") (CX := fun _ => L2.CX0) rfl (by decide) rfl ⟨rfl, by decide, by decide⟩ (fun w h Y => PySem.W.kIn_of Y) ?F (fun _ _ _ _ _ h => h)
  case F =>
    intro w mg fa h Y KX G hmg
    refine' HL.all_mk KX G hmg ?a0 ?l0 ?c0 ?k0 ?a1 ?l1 ?c1 ?k1 ?a2 ?l2 ?c2 ?k2 ?a3 ?l3 ?c3 ?k3 ?a4 ?l4 ?c4 ?k4 ?a5 ?l5 ?c5 ?k5 ?a6 ?l6 ?c6 ?k6 ?a7 ?l7 ?c7 ?k7 ?a8 ?l8 ?c8 ?k8 ?a9 ?l9 ?c9 ?k9 ?a10 ?l10 ?c10 ?k10 ?a11 ?l11 ?c11 ?k11 ?a12 ?l12 ?c12 ?k12 ?a13 ?l13 ?c13 ?k13 ?a14 ?l14 ?c14 ?k14 ?a15 ?l15 ?c15 ?k15 ?a16 ?l16 ?c16 ?k16 ?a17 ?l17 ?c17 ?k17 ?a18 ?l18 ?c18 ?k18 ?a19 ?l19 ?c19 ?k19 ?a20 ?l20 ?c20 ?k20 ?a21 ?l21 ?c21 ?k21 ?a22 ?l22 ?c22 ?k22 ?a23 ?l23 ?c23 ?k23 ?aLe ?lLe ?cLe ?kLe ?lTLe ?v6 ?v5 ?v3 ?v30 ?v4000 ?z_len ?z_list ?z_tuple ?z_dict ?z_str ?z_int ?z_bool ?z_isinstance ?z_all ?z_range ?z_sum ?z_min ?z_max ?z_enumerate ?z_zip ?z_any ?z_reversed
    (case a0 => first | k_is | rfl)
    (case l0 => first | k_is | rfl)
    (case c0 => first | k_is | rfl)
    (case k0 => first | k_is | rfl)
    (case a1 => first | k_is | rfl)
    (case l1 => first | k_is | rfl)
    (case c1 => first | k_is | rfl)
    (case k1 => first | k_is | rfl)
    (case a2 => first | k_is | rfl)
    (case l2 => first | k_is | rfl)
    (case c2 => first | k_is | rfl)
    (case k2 => first | k_is | rfl)
    (case a3 => first | k_is | rfl)
    (case l3 => first | k_is | rfl)
    (case c3 => first | k_is | rfl)
    (case k3 => first | k_is | rfl)
    (case a4 => first | k_is | rfl)
    (case l4 => first | k_is | rfl)
    (case c4 => first | k_is | rfl)
    (case k4 => first | k_is | rfl)
    (case a5 => first | k_is | rfl)
    (case l5 => first | k_is | rfl)
    (case c5 => first | k_is | rfl)
    (case k5 => first | k_is | rfl)
    (case a6 => first | k_is | rfl)
    (case l6 => first | k_is | rfl)
    (case c6 => first | k_is | rfl)
    (case k6 => first | k_is | rfl)
    (case a7 => first | k_is | rfl)
    (case l7 => first | k_is | rfl)
    (case c7 => first | k_is | rfl)
    (case k7 => first | k_is | rfl)
    (case a8 => first | k_is | rfl)
    (case l8 => first | k_is | rfl)
    (case c8 => first | k_is | rfl)
    (case k8 => first | k_is | rfl)
    (case a9 => first | k_is | rfl)
    (case l9 => first | k_is | rfl)
    (case c9 => first | k_is | rfl)
    (case k9 => first | k_is | rfl)
    (case a10 => first | k_is | rfl)
    (case l10 => first | k_is | rfl)
    (case c10 => first | k_is | rfl)
    (case k10 => first | k_is | rfl)
    (case a11 => first | k_is | rfl)
    (case l11 => first | k_is | rfl)
    (case c11 => first | k_is | rfl)
    (case k11 => first | k_is | rfl)
    (case a12 => first | k_is | rfl)
    (case l12 => first | k_is | rfl)
    (case c12 => first | k_is | rfl)
    (case k12 => first | k_is | rfl)
    (case a13 => first | k_is | rfl)
    (case l13 => first | k_is | rfl)
    (case c13 => first | k_is | rfl)
    (case k13 => first | k_is | rfl)
    (case a14 => first | k_is | rfl)
    (case l14 => first | k_is | rfl)
    (case c14 => first | k_is | rfl)
    (case k14 => first | k_is | rfl)
    (case a15 => first | k_is | rfl)
    (case l15 => first | k_is | rfl)
    (case c15 => first | k_is | rfl)
    (case k15 => first | k_is | rfl)
    (case a16 => first | k_is | rfl)
    (case l16 => first | k_is | rfl)
    (case c16 => first | k_is | rfl)
    (case k16 => first | k_is | rfl)
    (case a17 => first | k_is | rfl)
    (case l17 => first | k_is | rfl)
    (case c17 => first | k_is | rfl)
    (case k17 => first | k_is | rfl)
    (case a18 => first | k_is | rfl)
    (case l18 => first | k_is | rfl)
    (case c18 => first | k_is | rfl)
    (case k18 => first | k_is | rfl)
    (case a19 => first | k_is | rfl)
    (case l19 => first | k_is | rfl)
    (case c19 => first | k_is | rfl)
    (case k19 => first | k_is | rfl)
    (case a20 => first | k_is | rfl)
    (case l20 => first | k_is | rfl)
    (case c20 => first | k_is | rfl)
    (case k20 => first | k_is | rfl)
    (case a21 => first | k_is | rfl)
    (case l21 => first | k_is | rfl)
    (case c21 => first | k_is | rfl)
    (case k21 => first | k_is | rfl)
    (case a22 => first | k_is | rfl)
    (case l22 => first | k_is | rfl)
    (case c22 => first | k_is | rfl)
    (case k22 => first | k_is | rfl)
    (case a23 => first | k_is | rfl)
    (case l23 => first | k_is | rfl)
    (case c23 => first | k_is | rfl)
    (case k23 => first | k_is | rfl)
    (case aLe => first | k_is | rfl)
    (case lLe => first | k_is | rfl)
    (case cLe => first | k_is | rfl)
    (case kLe => first | k_is | rfl)
    (case lTLe => first | k_is | rfl)
    (case v6 => first | k_is | rfl)
    (case v5 => first | k_is | rfl)
    (case v3 => first | k_is | rfl)
    (case v30 => first | k_is | rfl)
    (case v4000 => first | k_is | rfl)
    (case z_len => first | k_is | rfl)
    (case z_list => first | k_is | rfl)
    (case z_tuple => first | k_is | rfl)
    (case z_dict => first | k_is | rfl)
    (case z_str => first | k_is | rfl)
    (case z_int => first | k_is | rfl)
    (case z_bool => first | k_is | rfl)
    (case z_isinstance => first | k_is | rfl)
    (case z_all => first | k_is | rfl)
    (case z_range => first | k_is | rfl)
    (case z_sum => first | k_is | rfl)
    (case z_min => first | k_is | rfl)
    (case z_max => first | k_is | rfl)
    (case z_enumerate => first | k_is | rfl)
    (case z_zip => first | k_is | rfl)
    (case z_any => first | k_is | rfl)
    (case z_reversed => first | k_is | rfl)

