import PyProof.Rows.All
import Wide.All
import OpenK.AllK
import Wide.FinOn
import PySem.Challenge.RW_hamperlot_k12_whole_great_amounts_counte
import HandS.ForMost
import HandS.Exc
import HandS.TryOnly
import HandS.ExcInit
import HandS.ExcField
import HandS.WordsExc
import HandS.Lambda
import HandS.EndTab
import HandS.IsInst
import HandS.TupMul
import HandS.TupAny
import HandS.Walk
import HandS.Defaults
import KE.KTupSum
import KE.DatumOrd
import KE.GoesEnum
import HandS.TryMany
import HandS.Wide
import HandS.Zip
import HandS.SortInts
import HandS.Conv
import HandS.SortRule
import HandS.Deep
import KE.KEqSeq
import KE.KNestM
set_option Elab.async false
set_option linter.all false
set_option maxRecDepth 100000
set_option maxHeartbeats 4000000
/-! Rules of one's own beside the layer's: sum, max, min of a tuple of ints; enumerate of a tuple; a tuple times 1. -/
namespace HL
open PySem PySem.Spec PyProof.Rows L2
section
variable {X : Cx}
theorem tupI {pins : List (Addr × Obj)} {σ : L2.St} {H : Hp} {s : Shared} {a : Addr} {ns : List Int} (I : Inv X pins σ H s) (h : SqT X.K H a (ns.map V.int)) :
    ∃ its : List Value, IntsAre its ns ∧ s.heap.IsTuple a its.toArray := by
  obtain ⟨its, rv, ⟨o, ho, hc, n, hd⟩, _⟩ := I.tuple h
  exact ⟨its, rv.ints, o, ho, hc, n, hd⟩
/-- sum(t) -/
def rSumT (K : PySem.W.Frag) : List V → Hp → VK → Prop := fun vs H Q =>
  ∃ (a : Addr) (ns : List Int), vs = [V.ref a] ∧ SqT K H a (ns.map V.int) ∧ Q (.int ns.sum) H
theorem cr_sumT (hc : X.calm = true) : CallR X (.builtin "sum") (rSumT X.K) := by
  intro pins s σ H vs us Q I r h
  obtain ⟨a, ns, rfl, hs, q⟩ := h
  obtain ⟨its, hi, hl⟩ := tupI I hs
  rw [Vals.ref1 r]
  obtain ⟨xs, e⟩ := hi.allInts.items
  have hn : numsOf (intItems xs).toList = ns := by
    rw [← e]
    exact hi.numsOf
  rw [nums_intItems] at hn
  rw [e] at hl
  refine PySem.W.ktm_sumG (I.ok.hd hc) hl fun h' tk t' hk => ?_
  rw [preSum_eq]
  rw [List.take_of_length_le (by simp), hn]
  exact ⟨.int _, H, I.kept hk, ⟨_, rfl⟩, q⟩
theorem maxOf_le (x : Int) (xs : List Int) : PySem.W.maxOf x xs ∈ x :: xs ∧ ∀ y ∈ x :: xs, y ≤ PySem.W.maxOf x xs := by
  induction xs generalizing x with
  | nil => exact ⟨List.mem_cons_self, fun y hy => by simp at hy; subst hy; exact Int.le_refl _⟩
  | cons z zs ih =>
    have e : PySem.W.maxOf x (z :: zs) = PySem.W.maxOf (if PySem.W.DatumOrd.lt x z = true then z else x) zs := rfl
    have d : (PySem.W.DatumOrd.lt x z = true) ↔ x < z := by
      show decide (x < z) = true ↔ x < z
      exact decide_eq_true_iff
    rw [e]
    by_cases c : x < z
    · rw [if_pos (d.mpr c)]
      obtain ⟨h1, h2⟩ := ih z
      refine ⟨List.mem_cons_of_mem _ h1, fun y hy => ?_⟩
      rcases List.mem_cons.mp hy with r | r
      · have := h2 z List.mem_cons_self
        omega
      · exact h2 y r
    · rw [if_neg (fun q => c (d.mp q))]
      obtain ⟨h1, h2⟩ := ih x
      refine ⟨?_, fun y hy => ?_⟩
      · rcases List.mem_cons.mp h1 with r | r
        · rw [r]; exact List.mem_cons_self
        · exact List.mem_cons_of_mem _ (List.mem_cons_of_mem _ r)
      · rcases List.mem_cons.mp hy with r | r
        · have := h2 x List.mem_cons_self
          omega
        · rcases List.mem_cons.mp r with r | r
          · have := h2 x List.mem_cons_self
            omega
          · exact h2 y (List.mem_cons_of_mem _ r)
theorem minOf_le (x : Int) (xs : List Int) : PySem.W.minOf x xs ∈ x :: xs ∧ ∀ y ∈ x :: xs, PySem.W.minOf x xs ≤ y := by
  induction xs generalizing x with
  | nil => exact ⟨List.mem_cons_self, fun y hy => by simp at hy; subst hy; exact Int.le_refl _⟩
  | cons z zs ih =>
    have e : PySem.W.minOf x (z :: zs) = PySem.W.minOf (if PySem.W.DatumOrd.lt z x = true then z else x) zs := rfl
    have d : (PySem.W.DatumOrd.lt z x = true) ↔ z < x := by
      show decide (z < x) = true ↔ z < x
      exact decide_eq_true_iff
    rw [e]
    by_cases c : z < x
    · rw [if_pos (d.mpr c)]
      obtain ⟨h1, h2⟩ := ih z
      refine ⟨List.mem_cons_of_mem _ h1, fun y hy => ?_⟩
      rcases List.mem_cons.mp hy with r | r
      · have := h2 z List.mem_cons_self
        omega
      · exact h2 y r
    · rw [if_neg (fun q => c (d.mp q))]
      obtain ⟨h1, h2⟩ := ih x
      refine ⟨?_, fun y hy => ?_⟩
      · rcases List.mem_cons.mp h1 with r | r
        · rw [r]; exact List.mem_cons_self
        · exact List.mem_cons_of_mem _ (List.mem_cons_of_mem _ r)
      · rcases List.mem_cons.mp hy with r | r
        · have := h2 x List.mem_cons_self
          omega
        · rcases List.mem_cons.mp r with r | r
          · have := h2 x List.mem_cons_self
            omega
          · exact h2 y (List.mem_cons_of_mem _ r)
/-- max(t), min(t) of ints -/
def rMaxT (K : PySem.W.Frag) : List V → Hp → VK → Prop := fun vs H Q =>
  ∃ (a : Addr) (ns : List Int), vs = [V.ref a] ∧ SqT K H a (ns.map V.int) ∧ 0 < ns.length ∧ ∀ m, m ∈ ns → (∀ y ∈ ns, y ≤ m) → Q (.int m) H
def rMinT (K : PySem.W.Frag) : List V → Hp → VK → Prop := fun vs H Q =>
  ∃ (a : Addr) (ns : List Int), vs = [V.ref a] ∧ SqT K H a (ns.map V.int) ∧ 0 < ns.length ∧ ∀ m, m ∈ ns → (∀ y ∈ ns, m ≤ y) → Q (.int m) H
theorem int_of_holds {h : Heap} {v : Value} {x : Int} (H : PySem.W.Holds h v x) : ∃ t, v = Value.int x t := by
  have z := PySem.W.HoldAll.toInts (PySem.W.HoldAll.cons H PySem.W.HoldAll.nil)
  cases z with
  | cons n t z => exact ⟨t, rfl⟩
theorem cr_maxT (hc : X.calm = true) (hu : X.A.units + 64 < cLine) : CallR X (.builtin "max") (rMaxT X.K) := by
  intro pins s σ H vs us Q I r h
  obtain ⟨a, ns, rfl, hs, hne, q⟩ := h
  obtain ⟨its, hi, hl⟩ := tupI I hs
  rw [Vals.ref1 r]
  cases ns with
  | nil => simp at hne
  | cons x xs =>
    refine PySem.W.max_tuple_datum (x := x) (xs := xs) (I.ok.hd hc) hl (PySem.W.HoldAll.of_ints (by simpa using hi)) (by show X.A.units + 1 + 0 < cLine; omega) fun i v h' tk _ hv hk => ?_
    obtain ⟨t, rfl⟩ := int_of_holds hv
    obtain ⟨h1, h2⟩ := maxOf_le x xs
    exact ⟨.int _, H, I.kept hk, ⟨_, rfl⟩, q _ h1 h2⟩
theorem cr_minT (hc : X.calm = true) (hu : X.A.units + 64 < cLine) : CallR X (.builtin "min") (rMinT X.K) := by
  intro pins s σ H vs us Q I r h
  obtain ⟨a, ns, rfl, hs, hne, q⟩ := h
  obtain ⟨its, hi, hl⟩ := tupI I hs
  rw [Vals.ref1 r]
  cases ns with
  | nil => simp at hne
  | cons x xs =>
    refine PySem.W.min_tuple_datum (x := x) (xs := xs) (I.ok.hd hc) hl (PySem.W.HoldAll.of_ints (by simpa using hi)) (by show X.A.units + 1 + 0 < cLine; omega) fun i v h' tk _ hv hk => ?_
    obtain ⟨t, rfl⟩ := int_of_holds hv
    obtain ⟨h1, h2⟩ := minOf_le x xs
    exact ⟨.int _, H, I.kept hk, ⟨_, rfl⟩, q _ h1 h2⟩
end
end HL

namespace HL
open PySem PySem.Spec PyProof.Rows L2
open AutoSeq1 (wpAny_loadPart')
/-! enumerate(t), t a tuple -/
abbrev oIt (t : Addr) : Obj := { cls := .type "tuple_iterator", data := .fields #[.ref t, .int 0 0] }
abbrev oEn (i : Addr) : Obj := { cls := .type "enumerate", data := .fields #[.none, .bool false, .ref i, rawInt 0, .none, .none] }
theorem meets_enumT (t : Addr) (items : Array Value) (o : Obj) (tyE : ∀ h : Heap, h.get? t = some o → h.IsTuple t items) :
    Meets (Builtin.«enumerate.__new__» ⟨[.type "enumerate", .ref t], []⟩)
      (fun _ R s => s.heap.get? t = some o ∧ R (.ok (.ret (.ref (s.heap.push (oIt t)).objs.size))) { s with heap := (s.heap.push (oIt t)).push (oEn s.heap.objs.size) }) :=
  .of_wp fun prog w A R s h => by
    obtain ⟨hp, g, d, tk, os⟩ := s
    obtain ⟨hl, h⟩ := h
    have hsub := sub_enumerate
    have hL : Heap.IsTuple (Shared.heap ⟨hp, g, d, tk, os⟩) t items := tyE _ hl
    wp_walk using wpAny_loadPart' hl
    refine wpAny_stack_any fun stk => wpAny_pure ?_
    split
    · rename_i c _ _ _ _ _
      cases (c == Value.type "enumerate") <;> (wp_walk using wpAny_loadPart' hl, wpAny_pyIter_tuple hL; exact ⟨_, rfl, h⟩)
    · wp_walk using wpAny_loadPart' hl, wpAny_pyIter_tuple hL
      exact ⟨_, rfl, h⟩
theorem call_enumT {prog : Program} {w : World} {A : Around} {E : Value → Shared → Prop} {s : Shared} {t : Addr} {items : Array Value} {Q : Value → Shared → Prop} (hL : s.heap.IsTuple t items)
    (h : ∀ h', IsEnum h' (s.heap.objs.size + 1) s.heap.objs.size 0 .none → h'.IsTupleIter s.heap.objs.size t 0 →
      (∀ b o, s.heap.get? b = some o → h'.get? b = some o) → Q (.ref (s.heap.objs.size + 1)) { s with heap := h' }) :
    wpAny (model prog w) A (call (.type "enumerate") [.ref t]) Q E s := by
  obtain ⟨o, hl, hc, n, hd⟩ := hL
  refine callType_new F.called_enumerate (by decide) (F.typeCall_enumerate_1 _) (F.newCall_enumerate_1 _) (fun obj => F.args_object_init_2 obj _) F.entry_enumerate_new
    (meets_enumT t items o fun h' e => ⟨o, e, hc, n, hd⟩) ⟨hl, ?_⟩
  have hz : (s.heap.push (oIt t)).objs.size = s.heap.objs.size + 1 := Heap.size_push ..
  show _ ∧ _
  rw [hz]
  have hen : IsEnum ((s.heap.push (oIt t)).push (oEn s.heap.objs.size)) (s.heap.objs.size + 1) s.heap.objs.size 0 .none := by
    have q := Heap.get?_push_size (s.heap.push (oIt t)) (o := oEn s.heap.objs.size) rfl
    rw [hz] at q
    exact q
  exact ⟨⟨_, hen, rfl⟩, h _ hen ⟨_, Heap.get?_push_of_some _ (Heap.get?_push_size _ rfl), rfl, rfl⟩ fun b o x => Heap.get?_push_of_some _ (Heap.get?_push_of_some _ x)⟩
theorem enum_endT {prog : Program} {w : World} {A : Around} {E : Value → Shared → Prop} {s : Shared} {e it t : Addr} {i : Nat} {items : Array Value} {old : Value} {Q : Option Value → Shared → Prop}
    (hh : A.handled = none) (hen : IsEnum s.heap e it i old) (hit : s.heap.IsTupleIter it t i) (hl : s.heap.IsTuple t items) (hx : items[i]? = none)
    (wish : ∀ h', Heap.ExtBut it s.heap h' → Q none { s with heap := h' }) : wpAny (model prog w) A (pyNext (.ref e)) Q E s := by
  have tyE : s.TypeIs (.ref e) "enumerate" := ⟨_, hen, rfl⟩
  unfold pyNext
  refine wpAny_bind (wpAny_attempt (wpAny_callSpecial?_slot (name := Str.ofString "__next__") tyE F.slot_enumerate_next (wpAny_call_entry F.slot_enumerate_next tyE F.entry_enumerate_next ?_ (F.args_enumerate_next_1 _))))
  show wpAny _ _ (field (.ref e) 2 >>= _) _ _ _
  refine wpAny_bind (wpAny_field hen rfl (x := .ref it) rfl (wpAny_bind (wpAny_nextOf_tuple_end hh hit hl hx fun h' x hen' hx' => ?_)))
  obtain ⟨o, ho, hc⟩ := hx'
  exact wpAny_bind (wpAny_isInstance (T := "StopIteration") (b := true) ⟨o, ho, hc⟩ isSubtype_stop (wpAny_pure (wish _ hen')))
/-- the tuple at a, each item in a new pair -/
def IteT (K : PySem.W.Frag) (a : Addr) : It where
  go := fun i H => ∃ (xs : List V) (x : V), SqT K H a xs ∧ xs[i]? = some x
  yld := fun i H v H' => ∃ T x, v = .ref T ∧ H T = none ∧ H' = upd H T (.tup [.int (i : Nat), x]) ∧ ∀ xs, SqT K H a xs → xs[i]? = some x
  stop := fun i H => ∃ xs : List V, SqT K H a xs ∧ xs.length ≤ i
theorem turn_enumT {P : Program} {w : World} {K : PySem.W.Frag} {elts : List Expr} {kk : Nat} {tpos : Pos} (a e it : Addr) (hai : a ≠ it) :
    Turn P w K (.Tuple elts kk tpos) (IteT K a) [e, it] e (fun i h => (∃ old, IsEnum h e it ((i : Nat) : Int) old) ∧ h.IsTupleIter it a i ∧ e ≠ it ∧ e ≠ a) where
  mem := by simp
  obj := fun i h sta b hb => by
    obtain ⟨⟨old, hen⟩, ⟨o, ho, hc, hd⟩, _⟩ := sta
    have e' : b = e ∨ b = it := by simpa using hb
    rcases e' with z | z
    · rw [z]
      exact ⟨_, hen, fun v q => nomatch q⟩
    · rw [z]
      exact ⟨o, ho, fun v q => by rw [hd] at q; cases q⟩
  keep := fun i h h' sta k => by
    obtain ⟨⟨old, hen⟩, hi, hne⟩ := sta
    exact ⟨⟨old, k e (by simp) _ hen⟩, hi.at fun o q => k it (by simp) o q, hne⟩
  item := by
    intro X hP hw hK hc i pins s σ H E I fpk sta hg
    subst hP hw hK
    obtain ⟨⟨old, hen⟩, hit, hne, hea⟩ := sta
    obtain ⟨xs, x, hq, hx⟩ := hg
    obtain ⟨its, rv, ⟨ot, hot, hct, nt, hdt⟩, hz⟩ := I.tuple hq
    have tyE : s.heap.IsTuple a its.toArray := ⟨ot, hot, hct, nt, hdt⟩
    obtain ⟨u, hu, ru⟩ := rv.get hx
    have hlt : i < its.toArray.size := by
      have := (List.getElem?_eq_some_iff.mp hu).1
      simpa using this
    have elt : e < s.heap.objs.size := Heap.lt_size hen
    have hil : it < s.heap.objs.size := by
      obtain ⟨_, q, _⟩ := hit
      exact Heap.lt_size q
    refine wpAny_pyNext_enum_itemD (Draws.tuple (A := X.A.in1) (I.ok.hd hc) it a hai its.toArray) hen ⟨hit, tyE⟩ hlt hne (by simp [hne, hea]) fun z h' tk hz' ho hit' hTn hsz kep => ?_
    have ez : z = u := by
      have q : its[i]? = some z := by simpa using hz'
      rw [hu] at q
      exact (Option.some.inj q).symm
    subst ez
    refine ⟨_, rfl, wpAny_letOwnedTupleGo_enum (s := { s with heap := h', toks := tk + 1 }) ho fun h'' hen' smb => ?_⟩
    have hT2 : h''.get? s.heap.objs.size = some { cls := .type "tuple", data := .seq #[.int i tk, z] } := (smb.2 _ (Nat.ne_of_gt elt)).trans hTn
    have new : ObjOk X.prog X.w (upd H s.heap.objs.size (.tup [.int (i : Nat), x])) h'' s.heap.objs.size (.tup [.int (i : Nat), x]) :=
      ⟨by show 2 ≤ sizeLine; decide, [.int i tk, z], .cons ⟨_, rfl⟩ (.cons ru .nil), ⟨_, hT2, rfl, _, rfl⟩⟩
    have I1 : Inv X pins σ (upd H s.heap.objs.size (.tup [.int (i : Nat), x])) { s with heap := h'', toks := tk + 1 } :=
      I.turnedNew (ch := [e, it]) (fun b ob hb q => (smb.2 b (fun z => hb (by simp [z]))).trans (kep b ob (fun z => hb (by simp [z])) (fun z => hb (by simp [z])) q)) fpk (Nat.le_refl _) new
    refine ⟨.ref s.heap.objs.size, _, I1, rfl, ⟨_, x, rfl, I.hok.fresh (Nat.le_refl _), rfl, fun ys hy => ?_⟩, ⟨⟨z, ?_⟩, hit'.1.at fun o q => (smb.2 it (Ne.symm hne)).trans q, hne, hea⟩, fun b hb => ?_⟩
    · rw [I.tuple_inj hy hq]
      exact hx
    · have eqi : ((i + 1 : Nat) : Int) = (i : Int) + 1 := by omega
      rw [eqi]
      exact hen'
    · have hb' : b < s.heap.objs.size := by
        have e' : b = e ∨ b = it := by simpa using hb
        rcases e' with z | z
        · rw [z]
          exact elt
        · rw [z]
          exact hil
      rw [upd_ne (Nat.ne_of_lt hb')]
      exact (fpk b hb).1
  done := by
    intro X hP hw hK hc i pins s σ H E I fpk sta hg
    subst hP hw hK
    obtain ⟨⟨old, hen⟩, hit, hne, hea⟩ := sta
    obtain ⟨xs, hq, hx⟩ := hg
    obtain ⟨its, rv, ⟨ot, hot, hct, nt, hdt⟩, hz⟩ := I.tuple hq
    obtain ⟨p0, p1, p2, p3, p4, p5⟩ := fpk it (by simp)
    have hl := rv.length
    refine enum_endT (I.ok.hd hc) hen hit ⟨ot, hot, hct, nt, hdt⟩ (by simp; omega) fun h' eb => ⟨rfl, I.turned (t' := s.toks) (fun b o hb q => eb b o hb q) p0 p1 p3 p4 p5⟩
  self := fun A i s Q E sta h => let ⟨⟨_, hen⟩, _⟩ := sta; wpAny_pyIter_enum hen h
def iEnumT (K : PySem.W.Frag) (ta : TA) : TI := fun σ H R => ta σ H fun vs H1 => ∃ a xs, vs = [.ref a] ∧ SqT K H1 a xs ∧ R (IteT K a) H1
theorem pi_enumT {X : Cx} {e : Expr} {ta : TA} {p pos tpos : Pos} {elts : List Expr} {kk : Nat} (hg : Gl X "enumerate") (hm : X.mg "enumerate" = none) (ha : PA X [e] ta)
    (hs : starEach [e] X.env = [(false, eval e X.env)] := by rfl) : PI X (.Tuple elts kk tpos) (.Call (.Name "enumerate" p) [e] [] pos) (iEnumT X.K ta) := by
  refine ⟨fun pins s σ H R I h => ?_⟩
  refine Call_ (ld_blt I hg hm boot_enumerate (PyProof.Rows.callWith_type1 (thn (ha.run pos pins s σ H _ I h) fun us sA ⟨vs, H1, I1, r1, q1⟩ => ?_) hs rfl))
  obtain ⟨a, xs, ex, hq, q⟩ := q1
  subst ex
  rw [Vals.ref1 r1]
  obtain ⟨its, rv, ⟨ot, hot, hct, nt, hdt⟩, hz⟩ := I1.tuple hq
  have hla : a < sA.heap.objs.size := Heap.lt_size hot
  refine call_enumT (items := its.toArray) ⟨ot, hot, hct, nt, hdt⟩ fun h' hen hit kep => wpAny_pyIter_enum hen ?_
  have JB : Inv X pins σ H1 { sA with heap := h' } := I1.kept (t' := sA.toks) kep
  refine ⟨sA.heap.objs.size + 1, [sA.heap.objs.size + 1, sA.heap.objs.size], _, _, H1, rfl, JB, turn_enumT a (sA.heap.objs.size + 1) sA.heap.objs.size (Nat.ne_of_lt hla),
    ⟨⟨.none, hen⟩, hit, Nat.succ_ne_self _, Nat.ne_of_gt (Nat.lt_succ_of_lt hla)⟩, fun b hb => ?_, q⟩
  have e' : b = sA.heap.objs.size + 1 ∨ b = sA.heap.objs.size := by simpa using hb
  have hle : sA.heap.objs.size ≤ b := by
    rcases e' with z | z
    · rw [z]
      exact Nat.le_add_right _ _
    · rw [z]
      exact Nat.le_refl _
  exact I1.fpOk hle (I1.hok.fresh hle)
end HL

namespace HL
open PySem PySem.Spec PyProof.Rows L2
open AutoSeq1 (wpAny_loadPart')
/-! t * k, k from 1 on: once is the tuple itself -/
theorem tuple_mul1 (l : Addr) (items : Array Value) (n : Nat) (dd : Option Addr) (sl : Array (Option Value)) (u : Tok) :
    Meets (Builtin.«tuple.__mul__» ⟨[.ref l, .int 1 u], []⟩)
      (fun _ R s => s.heap.get? l = some { cls := .type "tuple", dict := dd, data := .seq items n, slots := sl } ∧ R (.ok (.ret (.ref l))) s) :=
  .of_wp fun prog w A R s h => by
    obtain ⟨hp, g, d, tk, os⟩ := s
    obtain ⟨hl, h⟩ := h
    have f1 := AutoSeq1.idx_int
    have ht : Shared.TypeIs ⟨hp, g, d, tk, os⟩ (.ref l) "tuple" := ⟨_, hl, rfl⟩
    wp_walk using wpAny_loadPart' hl
    repeat (first
      | (refine wpAny_ite_false (by decide) ?_; wp_walk using wpAny_loadPart' hl)
      | (refine wpAny_ite_true (by cases items.isEmpty <;> decide) ?_; wp_walk using wpAny_loadPart' hl)
      | (refine wpAny_typeOf ht ?_; wp_walk using wpAny_loadPart' hl)
      | (refine wpAny_bind (wpAny_typeOf ht ?_); wp_walk using wpAny_loadPart' hl))
    exact ⟨_, rfl, h⟩
def rRepA (K : PySem.W.Frag) : R2 := fun x y H Q => ∃ l k xs, x = .ref l ∧ y = .int k ∧ SqT K H l xs ∧ xs ≠ [] ∧ 1 ≤ k ∧ k ≤ 1000 ∧ xs.length ≤ 1000 ∧
  (k = 1 → Q (.ref l) H) ∧ (k ≠ 1 → ∀ p, H p = none → Q (.ref p) (upd H p (.tup (List.replicate k.toNat xs).flatten)))
theorem op_repA {X : Cx} : OpR X (binaryOp .Mult) (rRepA X.K) := by
  intro pins s σ H x y v u Q I rx ry h
  obtain ⟨l, k, xs, rfl, rfl, hT, hne, h1, h2, hz, q1, q2⟩ := h
  by_cases hk : k = 1
  · subst hk
    have rx' := rx
    cases rx
    obtain ⟨t, rfl⟩ := ry
    obtain ⟨its, r, ⟨⟨cl, dd, dat, sl⟩, ho, hc, n, hd⟩, _⟩ := I.tuple hT
    simp only at hc hd
    subst hc hd
    exact wpAny_binaryOp_repeat_ref (T := "tuple") (U := "int") (by decide) ⟨_, ho, rfl⟩ (fun s' => typeIs_int s' 1 t) noFill_tuple_mul F.fills_int_mul F.slot_int_rmul repeat_tuple F.slot_int_index.lookup
      (call_meets F.slot_int_rmul (typeIs_int s 1 t) F.entry_int_rmul (F.args_int_rmul_2 _ _) (int_rmul_tuple 1 t l its.toArray n dd sl)
        ⟨ho, rfl, ⟨_, ho, rfl⟩, call_meets F.slot_tuple_mul ⟨_, ho, rfl⟩ F.entry_tuple_mul (F.args_tuple_mul_2 _ _) (tuple_mul1 l its.toArray n dd sl t) ⟨ho, ⟨.ref l, H, I, rfl, q1 rfl⟩⟩⟩)
  · exact op_repT pins s σ H _ _ v u Q I rx ry ⟨l, k, xs, rfl, rfl, hT, hne, by omega, h2, hz, q2 hk⟩
end HL

namespace HL
open PySem PySem.Spec PyProof.Rows L2
/-! several except clauses, each with a name -/
/-- behind a suite the name's slot is empty -/
abbrev offE (i : Nat) (D : Ends) : Ends := { nx := fun σ' H' => D.nx (σ'.set i none) H', rt := D.rt, bk := fun σ' H' => D.bk (σ'.set i none) H', ct := fun σ' H' => D.ct (σ'.set i none) H' }
def wManyA (K : PySem.W.Frag) (i : Nat) (Wout : WX) (D : Ends) : List (Value × (Addr → Value → Option Addr → TS)) → WX
  | [] => Wout
  | (c, ts) :: r => fun cls d σ H => ∃ b, PySem.W.exmOne K cls c = some b ∧ (b = true → ∀ a, H a = none → ts a cls d (offE i D) (σ.set i (some (.ref a))) H) ∧ (b = false → wManyA K i Wout D r cls d σ H)
inductive HdsA (X : Cx) (n : Str) : List ExceptHandler → List (Value × (Addr → Value → Option Addr → TS)) → Prop
  | nil : HdsA X n [] []
  | cons {x : Str} {c : Value} {ts : Addr → Value → Option Addr → TS} {b₀ : Stmt} {suite : List Stmt} {np pos' : Pos} {hds : List ExceptHandler} {l : List (Value × (Addr → Value → Option Addr → TS))} (hc : Names X x c)
      (hsu : ∀ (a : Addr) (oe : Obj) (cls : Value) (d : Option Addr) (pn : List (Addr × Obj)), Zc cls d oe → (∃ vs, oe.data = .fields vs) → PSs (X.suite a ((a, oe) :: pn)) (b₀ :: suite) (ts a cls d)) (r : HdsA X n hds l) :
      HdsA X n (.ExceptHandler (some (.Name x np)) (some n) (b₀ :: suite) pos' :: hds) ((c, ts) :: l)
section
variable {X : Cx} {n : Str} {i : Nat} {body : List Stmt} {h₀ : ExceptHandler} {hds : List ExceptHandler} {l : List (Value × (Addr → Value → Option Addr → TS))} {pos : Pos} {tb : WX → TS} {Wout : WX}
theorem ps_try_manyA (hs : X.stack = X.env :: X.outer) (hf : X.env.frame = some X.env.locals) (hN : X.N.Nodup) (hi : X.N[i]? = some n) (hln : X.env.kindOf n = some .local) (tk : Takes X Wout)
    (hb : ∀ (W : WX) (pn : List (Addr × Obj)) (xe : Value → Shared → Prop), Takes (X.tr pn xe) W → PassesOwn (model X.prog X.w) X.A X.env xe → PSs (X.tr pn xe) body (tb W)) (hh : HdsA X n (h₀ :: hds) l) :
    PS X (.Try body (h₀ :: hds) [] [] pos) (fun D σ H => tb (wManyA X.K i Wout D l) D σ H) := by
  refine ⟨fun pins s σ H D I hTB => ?_⟩
  have okI := I.ok
  have frA : X.A.frames = some (X.env :: X.outer) := by rw [okI.frames, hs]
  have locN : Loc X.env.scope n := .inl hln
  refine wpAny_Try_except (wpAny_mono ((hb (wManyA X.K i Wout D l) (X.pn ++ pins) (fun e sa => wpAny (model X.prog X.w) X.A (noteFrame e X.env) (fun _ sb => wpAny (model X.prog X.w) X.A (setFlight e none) (fun _ sc =>
    wpAny (model X.prog X.w) X.A (handleBy e X.env (h₀ :: hds)) (SP X pins D) X.xe sc) X.xe sb) X.xe sa) (fun u s' xx => ?_) PassesOwn.looking).run [] s σ H D (I.toTry _) hTB) (fun f sq hsp => ?_) (fun e sq he => he))
  · obtain ⟨a, B, sI, pins', σ', H', cls, d, rfl, J', nb, up, sky, na, os, ag, wsh⟩ := xx
    have J : Inv X pins σ' H' sI := J'.ofTry okI
    have skyE : Sky B (X.env :: X.outer) a (Zc cls d) X.env.locals s'.heap := by rw [← hs]; exact sky
    show wpAny (model X.prog X.w) X.A (noteFrame (.ref a) X.env) _ _ _
    refine Sky.land Zc.steady frA hf skyE fun hC flC upC => ?_
    have JC : Inv X pins σ' H' { s' with heap := hC } := J.landed nb flC.1 (up.trans upC) os ag
    obtain ⟨oC, vC, heC, hzC, hdC⟩ := flC.there
    have notFr : a ∉ frs (X.env :: X.outer) := fun hm => by
      obtain ⟨_, o', e', hnf⟩ := flC.2.2.1.mem hm
      rw [heC] at e'
      cases e'
      exact hnf _ hdC
    have nL : a ≠ X.env.locals := fun z => notFr (List.mem_filterMap.mpr ⟨X.env, List.mem_cons_self, by rw [hf, z]⟩)
    have nF : a ∉ X.fs := fun hm => by
      obtain ⟨e, he, q⟩ := List.mem_filterMap.mp hm
      exact notFr (List.mem_filterMap.mpr ⟨e, List.mem_cons_of_mem _ he, q⟩)
    have SC := JC.suite heC hdC na nL nF
    have go : ∀ {hd2 : List ExceptHandler} {l2 : List (Value × (Addr → Value → Option Addr → TS))}, HdsA X n hd2 l2 → wManyA X.K i Wout D l2 cls d σ' H' → wpAny (model X.prog X.w) X.A (handleBy (.ref a) X.env hd2) (SP X pins D) X.xe { s' with heap := hC } := by
      intro hd2 l2 hk
      induction hk with
      | nil =>
        intro wn
        refine wpAny_handleBy_nil ?_
        obtain ⟨k1, k2, k3, oe, vs, T, oT, ts', he, hz, hd, h1, hr⟩ := id flC
        unfold PySem.passOn
        refine wpAny_bind (wpAny_field he hd h1 ?_)
        rw [if_neg (show ¬ ((Value.ref T == Value.none) = true) from by simp)]
        have fin : wpAny (model X.prog X.w) X.A (setFlight (.ref a) X.env.frame) (fun _ sd => wpAny (model X.prog X.w) X.A (throw (.ref a) : Sem Flow) (SP X pins D) X.xe sd) X.xe { s' with heap := hC } := by
          rw [hf]
          refine HandSPX.setFlight_upZ flC fun hD hhD upD => wpAny_throw (tk _ _ ?_)
          exact ⟨a, B, sI, pins, σ', H', cls, d, rfl, J, nb, (up.trans upC).trans upD, .inr (.inr (by rw [hs]; exact hhD)), na, os, ag, wn⟩
        first
          | exact wpAny_bind (wpAny_pure (wpAny_bind fin))
          | exact wpAny_bind fin
      | @cons x c ts b₀ suite np pos' hd3 l3 hc hsu r ih =>
        intro wn
        obtain ⟨b, hb1, hyes, hno⟩ := wn
        refine wpAny_handleBy_cons (codeAny_handlers_test ?_) (by intro q; cases q)
        have LT : PySem.W.Looks (model X.prog X.w) hC (typeOf (.ref a)) cls := fun A Q E s k q => wpAny_typeOf_ref (k _ _ heC) (by rw [hzC.1]; exact q)
        have LM := PySem.W.exm_one (M := model X.prog X.w) (JC.kIn) LT hb1
        have look : ∀ {Q : Value → Shared → Prop} {E : Value → Shared → Prop}, Q c { s' with heap := hC } → wpAny (model X.prog X.w) (X.A.mark (some (.ref a))) (eval (.Name x np) X.env) Q E { s' with heap := hC } := fun {Q E} q => by
          obtain ⟨hg, hdbg, hm | ⟨hm, hv, hnn⟩⟩ := hc
          · exact ld_glob (X := X.suite a ((a, oC) :: (X.pn ++ pins))) SC hg hm q hdbg
          · exact ld_blt (X := X.suite a ((a, oC) :: (X.pn ++ pins))) SC hg hm hv q hnn hdbg
        refine look (LM.here ?_)
        cases b with
        | false =>
          show wpAny _ X.A (handleBy (.ref a) X.env hd3) _ _ _
          exact ih (hno rfl)
        | true =>
          refine codeAny_handlers_suite_as (HandSPX.lands_againZ flC fun hD flD upD => ?_)
          have JD : Inv X pins σ' H' { s' with heap := hD } := J.landed nb flD.1 ((up.trans upC).trans upD) os ag
          obtain ⟨oD, vD, heD, hzD, hdD⟩ := flD.there
          have SD := JD.suite heD hdD na nL nF
          refine store_ok (X := X.suite a ((a, oD) :: (X.pn ++ pins))) (v := .ref a) SD hN hi locN rfl (fun sE SE => ?_) (.inr hln)
          refine wpAny_mono ((hsu a oD cls d (X.pn ++ pins) hzD ⟨_, hdD⟩).run [] sE _ H' _ SE (hyes rfl a na)) (fun f sG hsp => ?_) (fun _ _ z => False.elim z)
          have off : ∀ {σG : L2.St} {HG : Hp} {Q : Shared → Prop}, Inv (X.suite a ((a, oD) :: (X.pn ++ pins))) [] σG HG sG → (∀ sH, Inv X pins (σG.set i none) HG sH → Q sH) →
              wpAny (model X.prog X.w) X.A (do bindName X.env n .none; unbindBehindTheSuite X.env n pos') (fun _ sH => Q sH) X.xe sG := fun {σG HG Q} SG hq => gone_ok (SG.unsuite okI) hN hi hln hq
          cases f with
          | ret u =>
            obtain ⟨vG, σG, HG, SG, rG, qG⟩ := hsp
            exact off SG fun sH JH => ⟨_, _, _, JH, rG, qG⟩
          | next =>
            obtain ⟨σG, HG, SG, qG⟩ := hsp
            exact off SG fun sH JH => ⟨_, _, JH, qG⟩
          | brk =>
            obtain ⟨σG, HG, SG, qG⟩ := hsp
            exact off SG fun sH JH => ⟨_, _, JH, qG⟩
          | cont =>
            obtain ⟨σG, HG, SG, qG⟩ := hsp
            exact off SG fun sH JH => ⟨_, _, JH, qG⟩
    exact go hh wsh
  · cases f with
    | ret u =>
      obtain ⟨v, σ', H', J', r, q⟩ := hsp
      exact ⟨v, σ', H', J'.ofTry okI, r, q⟩
    | next =>
      obtain ⟨σ', H', J', q⟩ := hsp
      exact wpAny_execs_nil ⟨σ', H', J'.ofTry okI, q⟩
    | brk =>
      obtain ⟨σ', H', J', q⟩ := hsp
      exact ⟨σ', H', J'.ofTry okI, q⟩
    | cont =>
      obtain ⟨σ', H', J', q⟩ := hsp
      exact ⟨σ', H', J'.ofTry okI, q⟩
end
end HL

namespace HL
open PySem PySem.Spec PyProof.Rows L2
open LamX (CodeO Tabs TabB ExtN LamS lamEnv lamCx lam_start2 lam_make2 run_ofS tLam)
/-! what a def got is asked, its own slots known where that raises -/
/-- the asking def's context, entered at s -/
abbrev gCx (X : Cx) (Ng : List Str) (q : Str) (sg : Scope) (g : Addr) (cd : Value) (s : Shared) (H : Hp) : Cx := cxOf C8.CX0 X.prog X.w X.K X.mg X.base Ng q sg g cd X.A X.stack s H C8.E0
/-- the lambda that was made -/
abbrev lamO (X : Cx) (ps : Arguments) (b : Expr) (sc : Scope) (pm : Value) (c' : Addr) (ct : Value) : Obj := PySem.W.kla_obj "<lambda>" (X.env.qual ++ "<lambda>") ps b sc (cloFrom X.env.cells sc.names []) pm c' ct
theorem act_at {X : Cx} {pins : List (Addr × Obj)} {σ : L2.St} {H : Hp} {s : Shared} {Ng : List Str} {q : Str} {sg : Scope} {g f c' : Addr} {cd pm ct : Value} {ps : Arguments} {b : Expr} {sc : Scope} {k i : Nat} {a : Str} {pn : List (Addr × Obj)} {xe : Value → Shared → Prop} {W : WX} {E : XK} {tb : TE} {p1 p2 : Pos} {σ0 : L2.St}
    (I : Inv X pins σ H s) (L : LamS X.env.scope sc) (hf : s.heap.get? f = some (lamO X ps b sc pm c' ct)) (hn : H f = none) (hfr : f ∉ frs X.stack)
    (hb : bindArgs (PySem.W.kla_fn "<lambda>" (X.env.qual ++ "<lambda>") ps b sc (cloFrom X.env.cells sc.names []) pm (.ref c') ct) ⟨[], []⟩ = pure [])
    (tk : Takes ((gCx X Ng q sg g cd s H).tr pn xe) W) (hW : ∀ cls d H', E cls d H' → W cls d σ0 H') (hr : Room (k + 1) (X.A.deeper (envOfC q sg s.heap.objs.size g cd)))
    (hbody : ∀ (A : Around) (o : List Env) (s : Shared) (H : Hp), Room k (A.deeper (lamEnv X sc s.heap.objs.size f c')) → PE (lamCx X A o s H E sc f c') b tb)
    (hN : Ng[i]? = some a) (hv : Vis sg a) (d1 : (a == ("__debug__" : Str)) = false) (d2 : (a == ("__classdict__" : Str)) = false) :
    PE ((gCx X Ng q sg g cd s H).tr pn xe) (.Call (.Name a p1) [] [] p2) (fun σZ HZ Q => σZ = σ0 ∧ σZ[i]? = some (some (.ref f)) ∧ HZ c' = some (CodeO c' (X.env.qual ++ "<lambda>")) ∧ tb σ HZ Q) := by
  refine ⟨fun pz sz σz hz Qz J ⟨eσ, h1, h2, h3⟩ => ?_⟩
  have nm := (pe_var (pos := p1) (i := i) hN hv d1 d2).run pz sz σz hz (fun v H1 => v = .ref f ∧ H1 = hz) J ⟨_, h1, rfl, rfl⟩
  refine wpAny_Call_Name_kw (thn nm ?_)
  rintro u s1 ⟨v, H1, J1, r1, ⟨ev, eh⟩⟩
  subst ev
  rw [eh] at J1
  obtain rfl : u = Value.ref f := r1
  have o1 : s1.heap.get? f = some (lamO X ps b sc pm c' ct) := J1.base.keep f _ hf hn hfr (fun y => List.not_mem_nil (show f ∈ ([] : List Addr) from y))
  have go : codeAny (model X.prog X.w) (X.A.deeper (envOfC q sg s.heap.objs.size g cd)) (.call (.ref f) ⟨[], []⟩) (CR (L2.CX X.prog X.w) (envOfC q sg s.heap.objs.size g cd :: X.stack) X.prog X.w hz s1 Qz E) s1 := by
    obtain ⟨⟨oc, vs, t, ho, hd, hc⟩, _, _⟩ := J1.hok c' _ h2
    refine PySem.W.kla_callFunE hr.depth o1 rfl L.co L.gen rfl ⟨c', oc, vs, t, rfl, ho, hd, hc⟩ ?_
    rw [hb]
    refine wpAny_pure (wpAny_newFunctionEnv (fun y hy => (L.own y hy).2) (fun y hy => absurd hy (by simp)) (fun h1' hns hsb => ⟨J1.nolimit.fresh _ hsb, ?_⟩) L.kind)
    show codeAny _ _ (.expr b (lamEnv X sc s1.heap.objs.size f c')) _ _
    have st : Inv (lamCx X (X.A.deeper (envOfC q sg s.heap.objs.size g cd)) (envOfC q sg s.heap.objs.size g cd :: X.stack) s1 hz E sc f c') [] σ hz { s1 with heap := h1', toks := s1.toks + ([] : List (Str × Value)).length } :=
      lam_start2 I L J1.env0 hr.hd J1.base hns (fun b' o' e' => hsb.extBut b' o' (Nat.ne_of_lt (Heap.lt_size e')) (Heap.get?_push_of_some _ e'))
    refine PySem.W.kla_codeExpr (wpAny_mono ((hbody _ _ s1 hz (hr.deeper _)).run [] _ _ hz Qz st h3) ?_ (fun _ _ x => x))
    rintro v' s' ⟨w', H', J', rv, qv⟩
    exact ⟨w', H', J'.os, J'.bare, J'.base, J'.hok, rv, qv⟩
  refine PySem.W.callWith_F0 ⟨_, _, _, _, o1⟩ (wpAny_call (codeAny_mono go ?_))
  intro r s' hq
  cases r with
  | error e =>
    refine tk e s' (XE.of_call J1 (fun cls d H' hE => ?_) hq)
    rw [eσ]
    exact hW cls d H' hE
  | ok fl =>
    cases fl with
    | ret u => exact J1.after hq
    | next => cases hq
    | brk => cases hq
    | cont => cases hq
/-- the def that asks: σ0 its slots where it asks -/
def AsksOf (X : Cx) (Ng : List Str) (x : Str) (sg : Scope) (g : Addr) (cd : Value) (bg : List Stmt) (a : Str) (q : Str) (TT : (XK → Hp → VK → Prop) → Hp → VK → Prop) : Prop :=
  ∀ (f c' : Addr) (s : Shared) (H : Hp) (Q : VK) (tl : XK → Hp → VK → Prop),
    (∀ (σ0 : L2.St) (W : WX) (pn : List (Addr × Obj)) (xe : Value → Shared → Prop) (E : XK) (p1 p2 : Pos), Takes ((gCx X Ng x sg g cd s H).tr pn xe) W → (∀ cls d H', E cls d H' → W cls d σ0 H') →
      PE ((gCx X Ng x sg g cd s H).tr pn xe) (.Call (.Name a p1) [] [] p2) (fun σZ HZ Q => σZ = σ0 ∧ σZ[0]? = some (some (.ref f)) ∧ HZ c' = some (CodeO c' q) ∧ tl E HZ Q)) →
    H c' = some (CodeO c' q) → TT tl H Q → ∃ t, PSs (gCx X Ng x sg g cd s H).nox bg t ∧ t { nx := fun _ H' => Q .non H', rt := Q } (L2.start Ng [.ref f]) H
theorem pe_askcall {X : Cx} {T : List (Addr × Str)} {TT : (XK → Hp → VK → Prop) → Hp → VK → Prop} {x a : Str} {g c P : Addr} {k : Nat} {pg : Arguments} {bg : List Stmt} {sg : Scope} {dV kV doc pm cdv ct oc : Value} {an od : Option Addr} {osl : Array (Option Value)} {Ng : List Str}
    {ps : Arguments} {b : Expr} {sc : Scope} {t : XK → TE} {p lp pos : Pos} (hg : Gl X x) (hm : X.mg x = some (.ref g)) (hk : PySem.W.keepIn X.K (.ref g) = true)
    (lk : X.K.lookup g = some ⟨oc, od, .func (PySem.W.fnOf x x pg bg sg dV kV doc pm an cdv ct), osl⟩) (hcg : PySem.W.codeIn X.K cdv x = true) (hbi : L2.Binds X.K (PySem.W.fnOf x x pg bg sg dV kV doc pm an cdv ct) [a] []) (Sg : FnScope Ng [a] sg) (hN : Ng[0]? = some a) (hv : Vis sg a)
    (hG : AsksOf X Ng x sg g cdv bg a (X.env.qual ++ "<lambda>") TT) (TB : TabB X.base X.mg c P) (hcode : X.env.code = .ref c) (hT : (P, X.env.qual ++ "<lambda>") ∈ T) (hu : ∀ p ∈ T, p.1 = P → p.2 = X.env.qual ++ "<lambda>") (hr : Room (k + 2) X.A) (L : LamS X.env.scope sc) (hdef : defaultsOf ps X.env = ([], []))
    (hb : ∀ (q : Str) (cl : List (Str × Addr)) (pm cv ctv : Value), bindArgs (PySem.W.kla_fn "<lambda>" q ps b sc cl pm cv ctv) ⟨[], []⟩ = pure [])
    (hbody : ∀ (A : Around) (o : List Env) (s : Shared) (H : Hp) (E : XK) (f c' : Addr), Room k (A.deeper (lamEnv X sc s.heap.objs.size f c')) → PE (lamCx X A o s H E sc f c') b (t E))
    (d0 : (x == ("__debug__" : Str)) = false := by decide) (d1 : (a == ("__debug__" : Str)) = false := by decide) (d2 : (a == ("__classdict__" : Str)) = false := by decide) :
    PE X (.Call (.Name x p) [.Lambda ps b sc lp] [] pos) (tLam T TT t) := by
  refine ⟨fun pins s σ H Q I ⟨hTt, h⟩ => wpAny_Call_Name_kw (ld_glob I hg hm (PySem.W.callWith_K (h₀ := X.base) I.ok.mod.kin hk ?_ (by rfl) (by rfl)) d0)⟩
  show wpAny _ _ (spliced ((false, eval (.Lambda ps b sc lp) X.env) :: backTo pos (starEach [] X.env))) _ _ s
  refine Calls.spliced_cons (lam_make2 I TB hcode hT hu hTt hdef (L.has I.ok) fun f c' pm' ctv H1 s' J eN T1 hf hfn hfr hco => Calls.spliced_nil ⟨J.kIn, ?_⟩)
  refine wpAny_call (codeAny_mono (R := CR C8.CX0 X.stack X.prog X.w H1 s' Q C8.E0) (run_ofS (N := Ng) (ps := [a]) (us := [.ref f]) (vs := [.ref f]) lk hcg Sg hr J.env0 (hbi s' [.ref f] J.kIn rfl) (.cons rfl .nil) rfl fun hr' => ?_) fun r s2 hq => ?_)
  · obtain ⟨t', ht, hq⟩ := hG f c' s' H1 Q (fun E H' Q' => t E σ H' Q') (fun σ0 W pn xe E p1 p2 tk hW => act_at (i := 0) J L hf hfn hfr (hb _ _ _ _ _) tk hW hr' (fun A o s H hr2 => hbody A o s H E f c' hr2) hN hv d1 d2) hco (h H1 eN T1)
    exact ⟨t', ht.nox, hq⟩
  · cases r with
    | error e => exact (show False from hq).elim
    | ok fl =>
      cases fl with
      | ret u => exact J.after hq
      | next => cases hq
      | brk => cases hq
      | cont => cases hq
end HL

/-! own exceptions over any built-in base, their __init__ walked as a def; made with any count of arguments -/
namespace HL
open PySem PySem.Spec PyProof.Rows L2
open PySem.Builtin PySem.Builtin.ObjectAttr PySem.HandSPX
section
variable {prog : Program} {w : World} {A : Around} {R : Result → Shared → Prop} {hp : Heap} {g : Array GenState} {d : Drawn} {t : Nat} {os : OsState} {K : PySem.W.Frag} {f : Str} {tk : Tok} {v : Value} {x C : Addr} {fv : Array Value} {cd : ClassData}
/-- what a store on an instance looks up, told of its class alone -/
structure Mro (cd : ClassData) : Prop where
  pass : ∀ self, refuseLoop self "__setattr__" cd.mro = pure ()
  obj : cd.mro.contains (.type "object") = true
  ne : cd.mro.isEmpty = false
  hd : cd.hasDict = true
theorem osaG {o : Obj} {od : Option Obj} (X : K.In hp) (I : PySem.W.InstAt hp x o C od) (hcd : PySem.W.clsIn K C = some cd) (M : Mro cd) (ha : PySem.W.findIn K (.ref C) f = some none)
    (hq : wpAny (model prog w) A.in1 (storeInOwnDict (.ref x) (.ref C) (.str f tk) f v false) (fun r s' => match r with | .done fl => R (.ok fl) s' | .again c' => c'.quiet = true ∧ codeAny (model prog w) A c' R s') (fun e s' => R (.error e) s') ⟨hp, g, d, t, os⟩) :
    codeAny (model prog w) A (.call (.builtin "object.__setattr__") ⟨[.ref x, .str f tk, v], []⟩) R ⟨hp, g, d, t, os⟩ := by
  have SF := F.store_object
  have sub : PySem.W.Looks (model prog w) hp (isInstance (.ref x) (.type "object")) true := I.type.andThen (PySem.W.looks_mroIn X (by unfold PySem.W.mroIn; rw [hcd, Option.bind_some, if_neg (by rw [M.ne]; decide), M.obj]))
  refine codeAny_call_builtin SF.slot.plain SF.entry (@PySem.W.check_slot (model prog w) _ _ ⟨hp, g, d, t, os⟩ "object.__setattr__" "object" "__setattr__" (.ref x) [.str f tk, v] [] _ SF.kind SF.split sub (SF.args (.ref x) (.str f tk) v) ?_)
  have hmr : PySem.W.Looks (model prog w) hp (mroOf (.ref C)) cd.mro := (PySem.W.looks_clsIn X hcd).andThen .now
  have L3 : PySem.W.Looks (model prog w) hp (storeTaker? none) none := .now
  rw [PySem.W.osa_eq, refuse_eq]
  refine wpAny_bind (wpAny_bind (I.type.at (wpAny_bind (hmr.at ?_))))
  rw [M.pass]
  refine wpAny_pure (wpAny_bind (I.type.at (wpAny_bind ((PySem.W.looks_findIn X ha).at (wpAny_bind (L3.at ?_))))))
  exact hq
/-- the first field of an instance -/
theorem store1 (X : K.In hp) (hx : hp.get? x = some { cls := .ref C, data := .fields fv }) (hcd : PySem.W.clsIn K C = some cd) (M : Mro cd) (ha : PySem.W.findIn K (.ref C) f = some none)
    (hq : ∀ h' tk' dx, (∀ b o, b ≠ x → hp.get? b = some o → h'.get? b = some o) → hp.objs.size ≤ dx → dx ≠ x → h'.get? x = some { cls := .ref C, dict := some dx, data := .fields fv } → h'.Ns1 dx (fun y => if y = f then some v else none) → R (.ok (.ret .none)) ⟨h', g, d, tk', os⟩) :
    codeAny (model prog w) A (.call (.builtin "object.__setattr__") ⟨[.ref x, .str f tk, v], []⟩) R ⟨hp, g, d, t, os⟩ := by
  have hxs : x ≠ hp.objs.size := Nat.ne_of_lt (Heap.lt_size hx)
  refine osaG (od := none) X ⟨hx, rfl, rfl, trivial⟩ hcd M ha ?_
  have hc : PySem.W.Looks (model prog w) hp (classData C) cd := PySem.W.looks_clsIn X hcd
  obtain ⟨_, _, _, hdt⟩ := M
  obtain ⟨nm, bs, mro, ns, qn, hd, sn, sb, ab, col, del⟩ := cd
  cases hdt
  unfold storeInOwnDict ownDictForStores
  repeat (first | with_reducible refine store_in_new ?_ ?_ | with_reducible refine wpAny_loadPart_at hx ?_ | with_reducible refine hc.at ?_ | wp_step)
  · have nothing : ∀ e ∈ (#[] : Array DictEntry).toList, False := fun e he => by simp at he
    exact ⟨_, #[], _, (Heap.get?_update_ne _ _ _ _ hxs.symm).trans (Heap.get?_push_at rfl rfl),
      rfl, fun e he => absurd he (by simp), fun _ => rfl⟩
  · intro h' tk' hn' hs
    refine hq h' tk' hp.objs.size ?_ (Nat.le_refl _) hxs.symm ?_ hn'
    · intro b o hb ho
      rw [hs.2 b (Nat.ne_of_lt (Heap.lt_size ho)), Heap.get?_update_ne _ _ _ _ hb]
      exact Heap.get?_push_of_some _ ho
    · rw [hs.2 x hxs]
      exact Heap.get?_update_self _ (Heap.get?_push_of_some _ hx) rfl
/-- a further field -/
theorem store2 {dx : Addr} {m0 : Str → Option Value} {nl : List Str} (X : K.In hp) (hx : hp.get? x = some { cls := .ref C, dict := some dx, data := .fields fv }) (hns : hp.Ns1 dx m0) (hw : Within m0 nl) (hz : nl.length ≤ 1000) (hcd : PySem.W.clsIn K C = some cd) (M : Mro cd) (ha : PySem.W.findIn K (.ref C) f = some none)
    (hq : ∀ h' tk', (∀ b o, b ≠ dx → hp.get? b = some o → h'.get? b = some o) → h'.Ns1 dx (fun y => if y = f then some v else m0 y) → R (.ok (.ret .none)) ⟨h', g, d, tk', os⟩) :
    codeAny (model prog w) A (.call (.builtin "object.__setattr__") ⟨[.ref x, .str f tk, v], []⟩) R ⟨hp, g, d, t, os⟩ := by
  obtain ⟨oD, _, _, hoD, _, _⟩ := hns.count hw
  refine osaG (od := some oD) X ⟨hx, rfl, rfl, hoD⟩ hcd M ha ?_
  have hc : PySem.W.Looks (model prog w) hp (classData C) cd := PySem.W.looks_clsIn X hcd
  obtain ⟨_, _, _, hdt⟩ := M
  obtain ⟨nm, bs, mro, ns, qn, hd, sn, sb, ab, col, del⟩ := cd
  cases hdt
  unfold storeInOwnDict ownDictForStores
  repeat (first | with_reducible refine PySem.OEX.store_in_old hns hw hz ?_ | with_reducible refine wpAny_loadPart_at hx ?_ | with_reducible refine hc.at ?_ | wp_step)
  exact fun h' tk' hn' hs => hq h' tk' (fun b o hb ho => by rw [hs.2 b hb]; exact ho) hn'
end
/-- what the written part says of an own class over a built-in base -/
structure OexB (K : PySem.W.Frag) (C : Addr) (nid : String) (bmB : List Value) : Prop where
  cls : ∃ nm q N bs bm sn sub ab col dd k0 k1 k2 k3 k5, K.lookup C = some (excClassObj nm q C N bs bm true sn sub ab col dd k0 k1 k2 k3 k5 nid) ∧ (∀ X : String, bm.contains (.type X) = bmB.contains (.type X)) ∧ ∀ self, refuseLoop self "__setattr__" (.ref C :: bm) = pure ()
  ob : bmB.contains (.type "object") = true
  sa : PySem.W.findIn K (.ref C) "__setattr__" = some (some (.builtin "object.__setattr__"))
  exC : PySem.W.subIn K (.ref C) (.type "BaseException") = some true
  tyC : PySem.W.typeIn K (.ref C) = some (.type "type")
  kC : PySem.W.keepIn K (.ref C) = true
theorem OexB.mro {K : PySem.W.Frag} {C : Addr} {nid : String} {bmB : List Value} (T : OexB K C nid bmB) : ∃ cd, PySem.W.clsIn K C = some cd ∧ Mro cd := by
  obtain ⟨nm, q, N, bs, bm, sn, sub, ab, col, dd, k0, k1, k2, k3, k5, hC, h1, h2⟩ := T.cls
  refine ⟨{ name := nm, bases := bs, mro := .ref C :: bm, ns := N, qualname := q, hasDict := true, slotNames := sn, subclasses := sub, abstract := ab, collection := col, hasDel := false }, by unfold PySem.W.clsIn; rw [hC] <;> rfl, h2, ?_, rfl, rfl⟩
  show (Value.ref C :: bm).contains (.type "object") = true
  rw [List.contains_cons, h1, T.ob, Bool.or_true]
section
variable {X : Cx} {nid : String} {bmB : List Value} {pins : List (Addr × Obj)} {σ : L2.St} {H : Hp} {s : Shared} {a C dx : Addr} {f : Str} {y : V} {u : Value} {fs : List (Str × V)} {Q : Unit → Shared → Prop} {E : Value → Shared → Prop} {A : Around}
theorem ostN (T : OexB X.K C nid bmB) (I : Inv X pins σ H s) (e : H a = some (exo a C none)) (hno : PySem.W.findIn X.K (.ref C) f = some none) (ry : RelV y u)
    (h : ∀ dx s', H dx = none → dx ≠ a → Inv X pins σ (upd (upd H dx (exd dx [(f, y)])) a (exo a C (some dx))) s' → Q () s') : wpAny (model X.prog X.w) A (setAttr (.ref a) f u) Q E s := by
  obtain ⟨cd, hcl, M⟩ := T.mro
  obtain ⟨t1, ho⟩ := exo_at I.hok e
  obtain ⟨hp, g, d, t, os⟩ := s
  refine PySem.W.set_plain (od := none) I.kIn ⟨ho, rfl, rfl, trivial⟩ T.sa (store1 I.kIn ho hcl M hno fun h' tk' dx k dn dne hx hn => ?_)
  have nH : H dx = none := I.hok.fresh dn
  have old : ∀ {b : Addr} {o : Obj}, hp.get? b = some o → b ≠ dx := fun {b o} q => Nat.ne_of_lt (Nat.lt_of_lt_of_le (Heap.lt_size q) dn)
  have off : ∀ {b : Addr}, H b = none → b ≠ a := fun {b} n z => by rw [z, e] at n; cases n
  have two : ∀ {b : Addr} {o : HO}, H b = some o → exo a C none ≠ o → upd (upd H dx (exd dx [(f, y)])) a (exo a C (some dx)) b = some o := fun {b o} q ne => by
    rw [upd_ne (at_ne e q ne), upd_ne (ne_of_none q nH)]
    exact q
  refine h dx _ nH dne (I.un (t' := tk') { keep := fun b o q n _ _ => k b o (off n) q, slot := fun b o q n _ _ => ⟨o.slots, k b o (off n) q⟩, free := ?fr, there := ?th, tups := fun b xs q => two q exo_tup, frzs := fun b o v q => two q exo_frz, tbls := fun b ps q => ⟨#[], by rw [two q exo_tbl]; simp⟩ } fun b o q => ?ok)
  case fr =>
    intro b o q n _
    rw [upd_ne (off n), upd_ne (old q)]
    exact n
  case th =>
    intro b o q _
    by_cases hb : b = a
    · rw [hb]
      exact ⟨_, hx⟩
    · exact ⟨o, k b o hb q⟩
  case ok =>
    by_cases hb : b = a
    · subst hb
      rw [upd_same] at q
      cases q
      exact exo_ok hx
    rw [upd_ne hb] at q
    by_cases hd : b = dx
    · subst hd
      rw [upd_same] at q
      cases q
      exact exd_ok hn (relO_put (fs := []) ry fun g => True.intro)
    rw [upd_ne hd] at q
    refine (I.hok b o q).stay (fun c v hc z => k c v ?_ z) (fun c hc => two hc exo_own) (fun c xs hc => two hc exo_tup)
    rcases hc with hc | hc
    · rw [hc]; exact hb
    · exact at_ne e hc exo_own
theorem ostO (T : OexB X.K C nid bmB) (I : Inv X pins σ H s) (e : H a = some (exo a C (some dx))) (ed : H dx = some (exd dx fs)) (hl : fs.length ≤ 900) (hno : PySem.W.findIn X.K (.ref C) f = some none) (ry : RelV y u)
    (h : ∀ s', Inv X pins σ (upd H dx (exd dx ((f, y) :: fs))) s' → Q () s') : wpAny (model X.prog X.w) A (setAttr (.ref a) f u) Q E s := by
  obtain ⟨cd, hcl, M⟩ := T.mro
  obtain ⟨t1, ho⟩ := exo_at I.hok e
  obtain ⟨mA, hns, rel⟩ := exd_at I.hok ed
  have hw := within_of rel
  obtain ⟨hp, g, d, t, os⟩ := s
  obtain ⟨oD, _, _, hoD, _, _⟩ := hns.count hw
  refine PySem.W.set_plain (od := some oD) I.kIn ⟨ho, rfl, rfl, hoD⟩ T.sa (store2 I.kIn ho hns hw (by rw [List.length_map]; omega) hcl M hno fun h' tk' k hn => ?_)
  have hd : ∃ o, h'.get? dx = some o := let ⟨o, _, _, e', _⟩ := hn; ⟨o, e'⟩
  exact h _ (I.write (t' := tk') (x := dx) (e := dx) (o := exd dx ((f, y) :: fs)) (by rw [ed]; exact True.intro) (.inl rfl) k hd (exd_ok hn (relO_put ry rel)))
end
/-! ### readings and rules -/
/-- self.f = e -/
def tOstB (K : PySem.W.Frag) (nid : String) (bmB : List Value) (f : Str) (to te : TE) : TS := fun D σ H => te σ H fun y H1 => to σ H1 fun x H2 => ∃ a C : Addr, x = .ref a ∧ OexB K C nid bmB ∧ PySem.W.findIn K (.ref C) f = some none ∧
  ((H2 a = some (exo a C none) ∧ ∀ dx, H2 dx = none → dx ≠ a → D.nx σ (upd (upd H2 dx (exd dx [(f, y)])) a (exo a C (some dx)))) ∨
    ∃ (dx : Addr) (fs : List (Str × V)), H2 a = some (exo a C (some dx)) ∧ H2 dx = some (exd dx fs) ∧ fs.length ≤ 900 ∧ D.nx σ (upd H2 dx (exd dx ((f, y) :: fs))))
section
variable {X : Cx} {nid : String} {bmB : List Value} {o e : Expr} {es : List Expr} {to te : TE} {ta : TA} {f : Str} {p p' pos : Pos}
theorem ps_ostB (ho : PE X o to) (he : PE X e te) (hs : swapsWith e (some (.Attribute o f p')) pos.line X.env = pure false := by rfl) : PS X (.Assign [.Attribute o f p'] e pos) (tOstB X.K nid bmB f to te) := by
  refine ⟨fun pins s σ H D I h => plainObj_wpAny_Assign_Attribute (thn (he.run pins s σ H _ I h) fun v s1 ⟨y, H1, I1, r1, q1⟩ => thn (ho.run pins s1 σ H1 _ I1 q1) ?_) hs⟩
  rintro u s2 ⟨x, H2, I2, r2, a, C, ex, T, hno, q⟩
  subst ex
  obtain rfl : u = Value.ref a := r2
  rcases q with ⟨ea, q⟩ | ⟨dx, fs, ea, ed, hl, q⟩
  · exact ostN T I2 ea hno r1 fun dx s' n ne J => ⟨σ, _, J, q dx n ne⟩
  · exact ostO T I2 ea ed hl hno r1 fun s' J => ⟨σ, _, J, q⟩
/-- the making, the arguments at hand -/
theorem make_at {CX : CXT} {B initId : String} {C fI : Addr} {k : Nat} {fd : FuncData} {ps : List Str} {sp : Sp} (EF : ExcBaseFacts B nid initId bmB) (T : OexB X.K C nid bmB) (iC : PySem.W.findIn X.K (.ref C) "__init__" = some (some (.ref fI))) (tI : PySem.W.typeIn X.K (.ref fI) = some (.type "function"))
    (F1 : FnOk X.prog X.w X.K X.mg X.base CX k fI fd ps sp) (hr : Room (k + 1) X.A) (hb : Binds X.K fd ps []) (hx : Passes CX X (fun _ _ _ => False)) {pins : List (Addr × Obj)} {σ : L2.St} {H1 : Hp} {s1 : Shared} {vs : List V} {us : List Value} {Q : XK} (I1 : Inv X pins σ H1 s1) (r1 : Vals vs us) (hz : vs.length ≤ 1000)
    (q1 : ∀ a, H1 a = none → sp (.ref a :: vs) (upd H1 a (exo a C none)) (fun v H2 => v = .non ∧ ∃ (d : Addr) (fs : List (Str × V)), H2 a = some (exo a C (some d)) ∧ H2 d = some (exd d fs) ∧ H1 d = none ∧ Q (.ref C) (some d) (upd (del H2 a) d (.xd fs))) (fun _ _ _ => False)) :
    wpAny (model X.prog X.w) X.A (call (.ref C) us) (MkP X pins σ Q) X.xe s1 := by
  obtain ⟨nm, q, N, bs, bm, sn, sub, ab, col, dd, k0, k1, k2, k3, k5, hC, h1, h2⟩ := T.cls
  obtain ⟨hp, g, dr, tk, os⟩ := s1
  have le : hp.objs.size ≤ hp.objs.size + 1 := Nat.le_succ _
  have hq := q1 (hp.objs.size + 1) (I1.hok.fresh le)
  have up : ∀ b o, hp.get? b = some o → ((hp.push (PySem.W.kdv_tup us)).push (excO C hp.objs.size)).get? b = some o := fun b o z => Heap.get?_push_of_some _ (Heap.get?_push_of_some _ z)
  have at1 : ((hp.push (PySem.W.kdv_tup us)).push (excO C hp.objs.size)).get? (hp.objs.size + 1) = some (excO C hp.objs.size) := by heap_get
  have I2 : Inv X pins σ (upd H1 (hp.objs.size + 1) (exo (hp.objs.size + 1) C none)) ⟨(hp.push (PySem.W.kdv_tup us)).push (excO C hp.objs.size), g, dr, tk, os⟩ := I1.laid (t' := tk) up le (exo_ok at1)
  have r2 : Vals (V.ref (hp.objs.size + 1) :: vs) (Value.ref (hp.objs.size + 1) :: us) := .cons rfl r1
  have len : (Value.ref (hp.objs.size + 1) :: us ++ []).length = ps.length := by
    rw [List.append_nil, ← r2.length]
    exact F1.len _ _ _ _ hq
  have bi := hb _ (Value.ref (hp.objs.size + 1) :: us) I2.kIn len
  rw [List.append_nil] at bi
  have small : us.length ≤ sizeLine := by
    rw [← Paired.length r1, sizeLine_eq]
    omega
  have run := F1.run _ X.stack _ _ ⟨Value.ref (hp.objs.size + 1) :: us, []⟩ (Value.ref (hp.objs.size + 1) :: us) _ _ (fun _ _ _ => False) (hr.make C us []) (I2.env0.make C us []) bi r2 hq
  refine wpAny_call (call_own EF h1 (I1.kIn _ _ hC) (PySem.W.looks_findIn I1.kIn iC) (fun self => PySem.W.bind_fn I1.kIn self tI) small (codeAny_mono run ?_))
  rintro (er | fl) s' hq'
  · exact hx pins σ _ _ er s' I2 hq'
  · cases fl with
    | ret u =>
      obtain ⟨v, H2, os2, bare2, un2, hok2, rv, ev, d, fs, ea, ed, hd1, q2⟩ := hq'
      subst ev
      exact ⟨rv, mk_end (raises_own T.exC T.tyC) I1 le up un2 hok2 os2 bare2 ea ed hd1 q2⟩
    | next => cases hq'
    | brk => cases hq'
    | cont => cases hq'
def tMkB (C : Addr) (sp : Sp) (ta : TA) : L2.St → Hp → XK → Prop := fun σ H Q => ta σ H fun vs H1 => vs.length ≤ 1000 ∧ ∀ a, H1 a = none → sp (.ref a :: vs) (upd H1 a (exo a C none))
  (fun v H2 => v = .non ∧ ∃ (d : Addr) (fs : List (Str × V)), H2 a = some (exo a C (some d)) ∧ H2 d = some (exd d fs) ∧ H1 d = none ∧ Q (.ref C) (some d) (upd (del H2 a) d (.xd fs))) (fun _ _ _ => False)
theorem pmk_oexB {CX : CXT} {B initId : String} {x : Str} {C fI : Addr} {k : Nat} {fd : FuncData} {ps : List Str} {sp : Sp} (EF : ExcBaseFacts B nid initId bmB) (T : OexB X.K C nid bmB) (iC : PySem.W.findIn X.K (.ref C) "__init__" = some (some (.ref fI))) (tI : PySem.W.typeIn X.K (.ref fI) = some (.type "function"))
    (F1 : FnOk X.prog X.w X.K X.mg X.base CX k fI fd ps sp) (hr : Room (k + 1) X.A) (hb : Binds X.K fd ps []) (hx : Passes CX X (fun _ _ _ => False)) (hg : Gl X x) (hm : X.mg x = some (.ref C)) (ha : PA X (e :: es) ta)
    (hdb : (x == ("__debug__" : Str)) = false := by decide) (he : starEach (e :: es) X.env = (false, eval e X.env) :: starEach es X.env := by rfl) (hpl : (backTo pos (starEach es X.env)).any (·.1) = false := by rfl) :
    PMk X (.Call (.Name x p) (e :: es) [] pos) (tMkB C sp ta) := fun pins s σ H Q I h =>
  wpAny_Call_Name_kw (ld_glob I hg hm (PySem.W.callWith_K (h₀ := X.base) I.ok.mod.kin T.kC (thn (ha.run pos pins s σ H _ I h) fun us s1 ⟨vs, H1, I1, r1, hz, q1⟩ => ⟨I1.kIn, make_at EF T iC tI F1 hr hb hx I1 r1 hz q1⟩) he hpl) hdb)
theorem pmk_oexB0 {CX : CXT} {B initId : String} {x : Str} {C fI : Addr} {k : Nat} {fd : FuncData} {ps : List Str} {sp : Sp} (EF : ExcBaseFacts B nid initId bmB) (T : OexB X.K C nid bmB) (iC : PySem.W.findIn X.K (.ref C) "__init__" = some (some (.ref fI))) (tI : PySem.W.typeIn X.K (.ref fI) = some (.type "function"))
    (F1 : FnOk X.prog X.w X.K X.mg X.base CX k fI fd ps sp) (hr : Room (k + 1) X.A) (hb : Binds X.K fd ps []) (hx : Passes CX X (fun _ _ _ => False)) (hg : Gl X x) (hm : X.mg x = some (.ref C)) (hdb : (x == ("__debug__" : Str)) = false := by decide) :
    PMk X (.Call (.Name x p) [] [] pos) (tMkB C sp tNil) := fun pins s σ H Q I h =>
  wpAny_Call_Name_kw (ld_glob I hg hm (PySem.W.callWith_K0 I.kIn T.kC (make_at EF T iC tI F1 hr hb hx I .nil (Nat.zero_le _) h.2)) hdb)
end
end HL

namespace HL
open PySem PySem.Spec PyProof.Rows L2
/-! sorted(t), t a tuple of ints -/
def rSortedTup (K : PySem.W.Frag) : List V → Hp → VK → Prop := fun vs H Q => ∃ (a : Addr) (ns : List Int), vs = [V.ref a] ∧ SqT K H a (ns.map V.int) ∧ ∀ (ns' : List Int) (p : Addr), ns'.Perm ns → ns'.Pairwise (· ≤ ·) → H p = none → Q (.ref p) (upd H p (.lst (ns'.map V.int)))
theorem cr_sortedTup {X : Cx} : CallR X (.builtin "sorted") (rSortedTup X.K) := by
  intro pins s σ H vs us Q I r h
  obtain ⟨a, ns, rfl, hs, q⟩ := h
  obtain ⟨its, rv, ⟨o, ho, hc, n, hd⟩, hz⟩ := I.tuple hs
  rw [Vals.ref1 r]
  have hi := rv.ints
  have hz' : its.length ≤ sizeLine := by rw [← rv.length]; exact hz
  refine Calls.call_function_entry kind_sorted plain_sorted entry_sorted (args_sorted1 _) ?_
  unfold Builtin.«sorted»
  refine wpAny_bind (m := checkCount "sorted" 1 1 _) (wpAny_pure (wpAny_bind (wpAny_collect_seq (T := "tuple") a (.inr rfl) ho hc hd (fun h1 k1 => ?_) (by rw [List.size_toArray]; exact hz'))))
  rw [List.toList_toArray]
  refine wpAny_bind (wpAny_newList ?_ hz')
  have at1 : (h1.push (seqObj "list" its.toArray 0)).get? h1.objs.size = some (seqObj "list" its.toArray 0) := Heap.get?_push_size _ rfl
  have I1 := I.kept (t' := s.toks) k1
  refine wpAny_bind (wpAny_holding (wpAny_call_entry slot_list_sort ⟨_, at1, rfl⟩ entry_list_sort (SrtO.list_sort_ord SrtO.swo_int at1 hz' (fun h2 => SrtO.ints_sortable hi h2) fun out p1 p2 => ⟨_, rfl, ?_⟩) (args_list_sort _)))
  refine wpAny_pure ⟨_, rfl, ?_⟩
  obtain ⟨j1, j2, j3⟩ := SrtO.ints_out hi p1 p2
  obtain ⟨ep, he⟩ := sortedHeap_at (vs := its) (out := out.toArray) at1
  have hl : ((out.map SrtO.iv).map V.int).length ≤ sizeLine := by
    rw [List.length_map, j2.length_eq]
    rw [List.length_map] at hz
    exact hz
  refine ⟨.ref _, upd H h1.objs.size (.lst ((out.map SrtO.iv).map V.int)), I1.laid (t' := s.toks) (fun b o e => ?_) (Nat.le_refl _) ⟨hl, out, ep, vals_of_ints j1, he⟩, rfl, q _ _ j2 j3 (I1.hok.fresh (Nat.le_refl _))⟩
  have lb : b < h1.objs.size := Heap.lt_size e
  rw [sortedHeap_old (Nat.ne_of_lt lb) (by rw [Heap.size_push]; exact Nat.lt_succ_of_lt lb)]
  exact Heap.get?_push_of_some _ e
end HL

namespace HL
open PySem PySem.Spec PyProof.Rows L2
open AutoSeq1 (wpAny_loadPart')
/-! t * k, k from 0 on: no times is a new tuple of nothing -/
theorem tuple_mul0 (l : Addr) (items : Array Value) (n : Nat) (dd : Option Addr) (sl : Array (Option Value)) (u : Tok) (he : items.isEmpty = false) :
    Meets (Builtin.«tuple.__mul__» ⟨[.ref l, .int 0 u], []⟩)
      (fun _ R s => s.heap.get? l = some { cls := .type "tuple", dict := dd, data := .seq items n, slots := sl } ∧ R (.ok (.ret (.ref s.heap.objs.size))) { s with heap := s.heap.push { cls := .type "tuple", data := .seq #[] }, toks := s.toks }) :=
  .of_wp fun prog w A R s h => by
    obtain ⟨hp, g, d, tk, os⟩ := s
    obtain ⟨hl, h⟩ := h
    have f1 := AutoSeq1.idx_int
    have e1 : ¬ ((items.isEmpty || ((0 : Int) == 1)) = true) := by rw [he]; decide
    have e2 : (decide ((0 : Int) ≤ 0) || items.isEmpty) = true := by rw [he]; decide
    have e3 : ¬ ((#[] : Array Value).size > sizeLine) := by show ¬ (0 > sizeLine); decide
    wp_walk using wpAny_loadPart' hl
    repeat (first
      | (refine wpAny_ite_false (by decide) ?_; wp_walk using wpAny_loadPart' hl)
      | (refine wpAny_ite_false (decide_eq_false e1) ?_; wp_walk using wpAny_loadPart' hl)
      | (refine wpAny_ite_true (decide_eq_true e2) ?_; wp_walk using wpAny_loadPart' hl)
      | (refine wpAny_ite_true (by decide) ?_; wp_walk using wpAny_loadPart' hl)
      | (refine wpAny_ite_false (decide_eq_false e3) ?_; wp_walk using wpAny_loadPart' hl))
    exact ⟨_, rfl, h⟩
/-- no times, or as often as rRepA lets -/
def rRepN (K : PySem.W.Frag) : R2 := fun x y H Q => (∃ l xs, x = .ref l ∧ y = .int 0 ∧ SqT K H l xs ∧ xs ≠ [] ∧ ∀ p, H p = none → Q (.ref p) (upd H p (.tup []))) ∨ rRepA K x y H Q
theorem op_repN {X : Cx} : OpR X (binaryOp .Mult) (rRepN X.K) := by
  intro pins s σ H x y v u Q I rx ry h
  rcases h with ⟨l, xs, rfl, rfl, hT, hne, q⟩ | h
  · cases rx
    obtain ⟨t, rfl⟩ := ry
    obtain ⟨its, r, ⟨⟨cl, dd, dat, sl⟩, ho, hc, n, hd⟩, _⟩ := I.tuple hT
    simp only at hc hd
    subst hc hd
    have he : its.toArray.isEmpty = false := by
      cases its with
      | nil => exact absurd (List.eq_nil_of_length_eq_zero r.length) hne
      | cons a b => rfl
    refine wpAny_binaryOp_repeat_ref (T := "tuple") (U := "int") (by decide) ⟨_, ho, rfl⟩ (fun s' => typeIs_int s' 0 t) noFill_tuple_mul F.fills_int_mul F.slot_int_rmul repeat_tuple F.slot_int_index.lookup
      (call_meets F.slot_int_rmul (typeIs_int s 0 t) F.entry_int_rmul (F.args_int_rmul_2 _ _) (int_rmul_tuple 0 t l its.toArray n dd sl)
        ⟨ho, rfl, ⟨_, ho, rfl⟩, call_meets F.slot_tuple_mul ⟨_, ho, rfl⟩ F.entry_tuple_mul (F.args_tuple_mul_2 _ _) (tuple_mul0 l its.toArray n dd sl t he) ⟨ho, ?_⟩⟩)
    exact ⟨.ref s.heap.objs.size, _, I.laid (t' := s.toks) (o := .tup []) (fun b ob e => Heap.get?_push_of_some _ e) (Nat.le_refl _) ⟨Nat.zero_le _, [], .nil, IsTup.new _ _⟩, rfl, q _ (I.hok.fresh (Nat.le_refl _))⟩
  · exact op_repA pins s σ H x y v u Q I rx ry h
end HL

namespace HL
open PySem PySem.Spec PyProof.Rows L2
/-! {t: v}, t a tuple of ints and texts -/
def tDisp1T (tk tv : TE) : TE := fun σ H Q => ∀ p, H p = none → tk σ (upd H p (.dT [])) fun x H1 => tv σ H1 fun y H2 => ∃ (k : List Key) (b : Addr), x = .ref b ∧ H2 b = some (.tup (k.map kV)) ∧ H2 p = some (.dT []) ∧ Q (.ref p) (upd H2 p (.dT [(k, y)]))
theorem pe_disp1T {X : Cx} {ke ve : Expr} {pos : Pos} {tk tv : TE} (hu : X.A.units + 1 < cLine) (hk : PE X ke tk) (hv : PE X ve tv) : PE X (.Dict [some ke] [ve] pos) (tDisp1T tk tv) := by
  refine ⟨fun pins s σ H Q I q => ?_⟩
  have hn := I.hok.fresh (Nat.le_refl s.heap.objs.size)
  have I1 := I.laid (a := s.heap.objs.size) (o := .dT []) (h' := s.heap.push { cls := .type "dict", data := .dict #[] }) (t' := s.toks) (fun _ _ e => Heap.get?_push_of_some _ e) (Nat.le_refl _) (dt_empty s.heap I.big)
  rw [arm_eval_Dict, zip_pairTrees [some ke] [ve] X.env pos rfl rfl, dictDisplay_pairs (pairTrees [some ke] [ve] X.env pos) (fun z => by cases z) (by show 1 < 17; decide)]
  refine wpAny_bind (wpAny_standAt (wpAny_bind ?_))
  unfold subDict
  refine wpAny_bind (wpAny_alloc (wpAny_bind (wpAny_holding ?_)))
  rw [if_pos (show (pairTrees [some ke] [ve] X.env pos).length ≤ 15 by show 1 ≤ 15; decide)]
  refine wpAny_bind (pairTrees_cons_walk (thn (hk.run pins _ σ _ _ I1 (q _ hn)) fun u s1 ⟨x, H1, I2, rx, q1⟩ => thn (hv.run pins s1 σ H1 _ I2 q1) fun w2 s2 ⟨y, H2, I3, ry, q2⟩ => pairTrees_nil_walk (wpAny_holding ?_)))
  obtain ⟨k, b, rfl, hb, hp, q3⟩ := q2
  cases (show u = Value.ref b from rx)
  obtain ⟨z, hd, xs, rel, dd⟩ := dt_of I3.hok hp
  rw [List.forIn_cons]
  refine wpAny_bind (wpAny_bind ?_)
  show wpAny (model X.prog X.w) X.A (dictSet s.heap.objs.size (.ref b) w2 >>= fun _ => pure (ForInStep.yield PUnit.unit)) _ _ _
  refine wpAny_bind (wpAny_dictSet_heap (hsz := by rw [← Paired.length rel]; exact z) (show (tupleKind (mixKind X.prog X.w)).room X.A from Nat.lt_of_le_of_lt (Nat.le_succ _) hu) (key_of I3.hok hb) dd fun h' dd' hs => wpAny_pure ?_)
  show wpAny (model X.prog X.w) X.A (forIn [] PUnit.unit _) _ _ _
  rw [List.forIn_nil]
  refine wpAny_pure (wpAny_pure (wpAny_pure (wpAny_pure ⟨.ref s.heap.objs.size, _, ?_, rfl, q3⟩)))
  obtain ⟨o, es, ep, hq, h2, h3, h4, _, h5⟩ := dd'
  cases rel
  refine d_write I3 (by rw [hp]; exact True.intro) hs ⟨o, hq⟩ ⟨by show 1 ≤ sizeLine; decide, hd, _, ((KT.put (H := H2) .nil k hb ry)).keeps fun c ys ec => ?_, o, es, ep, hq, h2, h3, h4, h5⟩
  rw [upd_ne (ne_of ec hp (fun z => nomatch z))]
  exact ec
end HL

namespace HL
open PySem PySem.Spec PyProof.Rows L2 HT
/-! t += u, both tuples -/
theorem noI_tup : typeLookup (.type "tuple") (dunderI "add") = pure none := by rw [typeLookup_type, builtinLookup_eq_fast]; kernel_rfl
section
variable {X : Cx}
theorem ip_catA : PIp X .Add (rCatA X.K) := by
  intro pins s σ H x y v u Q I rx ry h
  obtain ⟨a, b, xs, ys, rfl, rfl, ha, hb, hz, q0, q1, q2⟩ := h
  cases rx
  cases ry
  obtain ⟨is1, r1, p1, _⟩ := I.tuple ha
  obtain ⟨is2, r2, p2, _⟩ := I.tuple hb
  obtain ⟨⟨c1, d1, da1, sl1⟩, o1, k1, n1, e1⟩ := id p1
  obtain ⟨⟨c2, d2, da2, sl2⟩, o2, k2, n2, e2⟩ := id p2
  simp only at k1 e1 k2 e2
  subst k1 e1 k2 e2
  have go : ∀ {S : PySem.Spec} (_ : Meets ((fun B : Builtin => B ⟨[.ref a, .ref b], []⟩) _) S) (_ : S X.A (wants (EP X pins σ Q) X.xe) s), wpAny (model X.prog X.w) X.A (inplaceOp .Add (.ref a) (.ref b)) (EP X pins σ Q) X.xe s :=
    fun g h => PyProof.Rows.inplaceOp_concat ⟨_, o1, rfl⟩ ⟨_, o2, rfl⟩ noI_tup noFill_tuple_add seq_tuple_add (call_meets PySem.F.slot_tuple_add ⟨_, o1, rfl⟩ PySem.F.entry_tuple_add (PySem.F.args_tuple_add_2 _ _) g h)
  by_cases hx : xs = []
  · subst hx
    cases r1
    exact go (tuple_addW0 a b ([] : List Value).toArray is2.toArray n1 n2 d1 d2 sl1 sl2 (by simp)) ⟨o1, o2, ⟨.ref b, H, I, rfl, q0 rfl⟩⟩
  · have hv : is1 ≠ [] := fun z => hx (r1.nil_iff.mp z)
    by_cases hy : is2 = []
    · exact go (tuple_addW1 a b is1.toArray is2.toArray n1 n2 d1 d2 sl1 sl2 (by simpa using hv) (by simp [hy])) ⟨o1, o2, ⟨.ref a, H, I, rfl, q1 hx (r2.nil_iff.mp hy)⟩⟩
    · refine go (tuple_addW2 a b is1.toArray is2.toArray n1 n2 d1 d2 sl1 sl2 (by simpa using hv) (by simpa using hy) (by rw [List.size_toArray, List.size_toArray, ← r1.length, ← r2.length]; exact hz)) ⟨o1, o2, ?_⟩
      rw [show is1.toArray ++ is2.toArray = (is1 ++ is2).toArray by simp]
      refine ⟨.ref s.heap.objs.size, _, I.laid (t' := s.toks) (o := .tup (xs ++ ys)) (fun c oc q => Heap.get?_push_of_some _ q) (Nat.le_refl _) ?_, rfl, q2 hx (fun w => hy (r2.nil_iff.mpr w)) _ (I.hok.fresh (Nat.le_refl _))⟩
      exact ⟨by rw [List.length_append]; exact hz, is1 ++ is2, r1.append r2, IsTup.new _ _⟩
end
end HL

namespace HL
open PySem PySem.Spec PyProof.Rows L2
/-! sorted of a list of rows (tuples of as many whole numbers each, from 0 to below B) that rise already -/
def codeV (h : Heap) (B : Int) (v u : Value) : Bool := decide (TS.code B (TS.intsOf h v) < TS.code B (TS.intsOf h u))
theorem codeV_swo (h : Heap) (B : Int) : SrtO.Swo (codeV h B) := by
  refine ⟨fun x y e => ?_, fun x y z e1 e2 => ?_⟩
  · have := of_decide_eq_true e
    exact decide_eq_false (by omega)
  · have a1 := of_decide_eq_false e1
    have a2 := of_decide_eq_false e2
    exact decide_eq_false (by omega)
theorem vals_refs : ∀ {us : List Value} {as : List Addr}, (∀ u ∈ us, ∃ a, u = Value.ref a) → as.map V.ref = us.map backV → us = as.map Value.ref
  | [], [], _, _ => rfl
  | [], _ :: _, _, e => by simp at e
  | _ :: _, [], _, e => by simp at e
  | u :: us, a :: as, h, e => by
    obtain ⟨b, rfl⟩ := h u List.mem_cons_self
    rw [List.map_cons, List.map_cons] at e
    obtain ⟨e1, e2⟩ := List.cons.inj e
    have e3 : V.ref a = V.ref b := e1
    rw [List.map_cons, V.ref.inj e3, vals_refs (fun u hu => h u (List.mem_cons_of_mem _ hu)) e2]
theorem sortable_rows {prog : Program} {w : World} {A : Around} {s : Shared} {a : Addr} {vs : List Value} {d : Nat} {B : Int} {f : Value → Value → Bool} (h0 : 0 < vs.length) (hd : 1 ≤ d) (x : TS.TupsOk s.heap d B vs) (hf : ∀ v u ns ms, v ∈ vs → u ∈ vs → TS.TupInts s.heap v ns → TS.TupInts s.heap u ms → f v u = decide (TS.code B ns < TS.code B ms))
    (ha : ∀ o, s.heap.get? a = some o → o.cls ≠ .type "tuple") : SrtO.SortableO prog w A s a vs f := by
  intro h' keep
  have kk : ∀ b o, s.heap.get? b = some o → o.cls = .type "tuple" → h'.get? b = some o := fun b o e c => keep b o (fun z => by subst z; exact ha o e c) e
  have x' := x.keeps kk
  obtain ⟨fs, h1, h2, h3⟩ := TS.firsts_of hd vs x'
  refine ⟨tuples' true, fun Q E hq => ?_, ?_⟩
  · refine PySem.W.kat_kind (T := .type "int") h1 (by omega) (fun g hm => ?_) (by rfl) ?_
    · obtain ⟨n, t, rfl⟩ := h3 g hm
      exact PySem.W.Looks.now
    · rw [show (Value.type "int" != Value.type "tuple") = true by first | decide +kernel | rfl | decide]
      exact hq
  · intro p q hp hq
    obtain ⟨ns, t1, l1, b1⟩ := x _ hp
    obtain ⟨ms, t2, l2, b2⟩ := x _ hq
    show wpAny (model prog w) A (keyLt' (tuples' true) p.1 q.1) (fun r s' => s' = { s with heap := h' } ∧ r = f p.1 q.1) (fun _ _ => False) { s with heap := h' }
    rw [hf _ _ _ _ hp hq t1 t2]
    obtain ⟨a1, xs, e1, ⟨o1, ho1, hc1, n1, hd1⟩, i1⟩ := t1.keeps kk
    obtain ⟨a2, ys, e2, ⟨o2, ho2, hc2, n2, hd2⟩, i2⟩ := t2.keeps kk
    rw [e1, e2]
    refine PySem.W.kat_lt ho1 hd1 ho2 hd2 ?_
    have z1 := i1.length
    have z2 := i2.length
    rw [Array.length_toList] at z1 z2
    rw [show decide (xs.size < ys.size) = false from decide_eq_false (by omega)]
    exact TS.lex_ints 0 i1 i2 (by omega) b1 b2 ⟨rfl, rfl⟩
def rSortedR (K : PySem.W.Frag) : List V → Hp → VK → Prop := fun vs H Q => ∃ (a : Addr) (as : List Addr) (rows : List (List Int)) (d : Nat) (B : Int), vs = [V.ref a] ∧ SqL K H a (as.map V.ref) ∧ as.length = rows.length ∧
  (∀ (i : Nat) (b : Addr) (r : List Int), as[i]? = some b → rows[i]? = some r → H b = some (.tup (r.map V.int))) ∧ 1 ≤ d ∧ (∀ r ∈ rows, r.length = d ∧ TS.Bd B r) ∧ rows.Pairwise (fun r s => TS.code B r < TS.code B s) ∧ ∀ p, H p = none → Q (.ref p) (upd H p (.lst (as.map V.ref)))
theorem cr_sortedR {X : Cx} : CallR X (.builtin "sorted") (rSortedR X.K) := by
  intro pins s σ H vs us Q I r h
  obtain ⟨a, as, rows, d, B, rfl, hs, hlen, hat, hd, hok, hrise, q⟩ := h
  obtain ⟨its, rv, hl, hz⟩ := I.list hs
  obtain ⟨u, rfl, ru⟩ := vals1 r
  obtain rfl : u = Value.ref a := ru
  obtain ⟨e1, e2⟩ := refs_back rv fun x m => by
    obtain ⟨b, _, rfl⟩ := List.mem_map.mp m
    exact ⟨b, rfl⟩
  obtain rfl := vals_refs e2 e1
  have tup : ∀ (i : Nat) (b : Addr) (r : List Int), as[i]? = some b → rows[i]? = some r → TS.TupInts s.heap (.ref b) r := fun i b r h1 h2 => by
    obtain ⟨_, its2, r2, o, ho, hc, n, hdt⟩ := I.hok _ _ (hat i b r h1 h2)
    exact ⟨b, its2.toArray, rfl, ⟨o, ho, hc, n, hdt⟩, by rw [List.toList_toArray]; exact r2.ints⟩
  have row : ∀ (i : Nat) (b : Addr), as[i]? = some b → ∃ r, rows[i]? = some r := fun i b hb => by
    have := (List.getElem?_eq_some_iff.mp hb).1
    exact ⟨_, List.getElem?_eq_getElem (by omega)⟩
  have tok : TS.TupsOk s.heap d B (as.map Value.ref) := fun v hv => by
    obtain ⟨b, hb, rfl⟩ := List.mem_map.mp hv
    obtain ⟨i, hi, e⟩ := List.mem_iff_getElem.mp hb
    have hb' : as[i]? = some b := by rw [List.getElem?_eq_getElem hi, e]
    obtain ⟨r, hr⟩ := row i b hb'
    obtain ⟨k1, k2⟩ := hok r (List.mem_of_getElem? hr)
    exact ⟨r, tup i b r hb' hr, k1, k2⟩
  have srt : SrtO.Srtd (codeV s.heap B) (as.map Value.ref) := by
    refine List.pairwise_iff_getElem.mpr fun i j hi hj hij => ?_
    rw [List.length_map] at hi hj
    have hi' : as[i]? = some as[i] := List.getElem?_eq_getElem hi
    have hj' : as[j]? = some as[j] := List.getElem?_eq_getElem hj
    have ri : rows[i]? = some (rows[i]'(by omega)) := List.getElem?_eq_getElem _
    have rj : rows[j]? = some (rows[j]'(by omega)) := List.getElem?_eq_getElem _
    have := List.pairwise_iff_getElem.mp hrise i j (by omega) (by omega) hij
    rw [List.getElem_map, List.getElem_map]
    unfold codeV
    rw [(tup j _ _ hj' rj).ints, (tup i _ _ hi' ri).ints]
    exact decide_eq_false (by omega)
  have hz' : (as.map Value.ref).length ≤ sizeLine := by rw [List.length_map]; rw [List.length_map] at hz; exact hz
  refine SrtO.sorted_ord (codeV_swo s.heap B) hl.isList hz' (fun h2 h₁ a' ha kk => ?_) fun out hso hb => ?_
  · refine sortable_rows (s := { s with heap := h₁ }) (d := d) (B := B) (by omega) hd (tok.keeps fun b o e _ => (kk b o e).2) (fun v u ns ms mv mu tv tu => ?_) fun o e => ?_
    · obtain ⟨ns', tv', _⟩ := tok v mv
      obtain ⟨ms', tu', _⟩ := tok u mu
      have kv := (tv'.keeps fun b o e _ => (kk b o e).2).ints
      have ku := (tu'.keeps fun b o e _ => (kk b o e).2).ints
      have ev : ns = ns' := tv.ints.symm.trans kv
      have eu : ms = ms' := tu.ints.symm.trans ku
      unfold codeV
      rw [tv'.ints, tu'.ints, ev, eu]
    · have e' : some o = some (seqObj "list" (as.map Value.ref).toArray 0) := e.symm.trans ha
      cases e'
      intro c
      exact absurd (Value.type.inj c) (by decide)
  · have eo := SrtO.stb_uniq (codeV_swo s.heap B) hso srt hb
    subst eo
    obtain ⟨n, hn⟩ := sortedAll_at s.heap (as.map Value.ref) (as.map Value.ref).toArray
    refine ⟨.ref _, upd H (s.heap.objs.size + 1) (.lst (as.map V.ref)), I.laid (t' := s.toks) (fun b o e => sortedAll_old e) (Nat.le_succ _) ⟨hz, as.map Value.ref, n, rv, hn⟩, rfl, q _ (I.hok.fresh (Nat.le_succ _))⟩
end HL

namespace HL
open PySem PySem.Spec PyProof.Rows L2
/-! xs[i] of a list, read for xs[i] += e -/
def rGetL (K : PySem.W.Frag) : V → V → Hp → VK → Prop := fun x y H Q => ∃ p xs i z, x = .ref p ∧ y = .int i ∧ SqL K H p xs ∧ 0 ≤ i ∧ atI xs i = some z ∧ Q z H
theorem get_list {X : Cx} : PGet X (rGetL X.K) := by
  intro pins s σ H x y v u Q I rx ry h
  obtain ⟨p, xs, i, z, rfl, rfl, hq, h0, he, q⟩ := h
  cases rx
  obtain ⟨t, rfl⟩ := ry
  obtain ⟨its, r, pl, hz⟩ := I.list hq
  obtain ⟨j, h1, h2, h3, h4, h5⟩ := atI_get he
  obtain ⟨w, ew, rw'⟩ := r.get h2
  have hl := r.length
  have hn := line63
  have fin : EP X pins σ Q w s := ⟨z, H, I, rw', q⟩
  have hj : i.toNat = j := by
    rw [seqIndex_of h0 h5] at h1
    exact Option.some.inj h1
  exact wpAny_getItem_list pl.isList h0 (by omega) (by rw [hj]; simpa using ew) fin
end HL

namespace HL
/-! ### rows, and how many ways there are to make one of rows -/
/-- b less h, taken k times -/
def subR (b h : List Int) (k : Int) : List Int := (b.zip h).map fun q => q.1 - k * q.2
def zeroB (b : List Int) : Bool := b.all fun z => decide (z = 0)
def nnB (b : List Int) : Bool := b.all fun z => decide (0 ≤ z)
def cnt : List (List Int) → List Int → Nat
  | [], b => if zeroB b = true then 1 else 0
  | h :: t, b => ((List.range (b.sum.toNat + 1)).map fun (k : Nat) => cnt t (subR b h (k : Int))).sum
/-- a kind: as wide as told, nothing below 0, something above it -/
def Kd (g : Nat) (h : List Int) : Prop := h.length = g ∧ (∀ n ∈ h, 0 ≤ n) ∧ ∃ n ∈ h, 0 < n
theorem sum_zeroN : ∀ {l : List Nat}, (∀ x ∈ l, x = 0) → l.sum = 0
  | [], _ => rfl
  | x :: l, h => by rw [List.sum_cons, h x List.mem_cons_self, sum_zeroN fun y hy => h y (List.mem_cons_of_mem _ hy)]
theorem nnB_iff {b : List Int} : nnB b = true ↔ ∀ n ∈ b, 0 ≤ n := by
  unfold nnB
  rw [List.all_eq_true]
  exact ⟨fun h n hn => of_decide_eq_true (h n hn), fun h n hn => decide_eq_true (h n hn)⟩
theorem zeroB_iff {b : List Int} : zeroB b = true ↔ ∀ n ∈ b, n = 0 := by
  unfold zeroB
  rw [List.all_eq_true]
  exact ⟨fun h n hn => of_decide_eq_true (h n hn), fun h n hn => decide_eq_true (h n hn)⟩
theorem subR_len {b h : List Int} {k : Int} (e : b.length = h.length) : (subR b h k).length = b.length := by
  unfold subR
  rw [List.length_map, List.length_zip]
  omega
theorem subR_cons {x y : Int} {b h : List Int} {k : Int} : subR (x :: b) (y :: h) k = (x - k * y) :: subR b h k := rfl
theorem subR_zero : ∀ {b h : List Int}, b.length = h.length → subR b h 0 = b
  | [], [], _ => rfl
  | x :: b, y :: h, e => by
    rw [subR_cons, subR_zero (by simpa using e), Int.zero_mul, Int.sub_zero]
  | [], _ :: _, e => by simp at e
  | _ :: _, [], e => by simp at e
theorem subR_add : ∀ {b h : List Int} {j k : Int}, subR (subR b h j) h k = subR b h (j + k)
  | [], _, _, _ => rfl
  | _ :: _, [], _, _ => rfl
  | x :: b, y :: h, j, k => by
    rw [subR_cons, subR_cons, subR_cons, subR_add, Int.add_mul]
    congr 1
    omega
theorem subR_comm : ∀ {b h g : List Int} {j k : Int}, subR (subR b h j) g k = subR (subR b g k) h j
  | [], _, _, _, _ => by simp [subR]
  | _ :: _, [], g, _, _ => by cases g <;> simp [subR]
  | _ :: _, _ :: _, [], _, _ => by simp [subR]
  | x :: b, y :: h, z :: g, j, k => by
    rw [subR_cons, subR_cons, subR_cons, subR_cons, subR_comm]
    congr 1
    omega
theorem subR_sum : ∀ {b h : List Int} {k : Int}, b.length = h.length → (subR b h k).sum = b.sum - k * h.sum
  | [], [], k, _ => by simp [subR]
  | x :: b, y :: h, k, e => by
    rw [subR_cons, List.sum_cons, List.sum_cons, List.sum_cons, subR_sum (by simpa using e), Int.mul_add]
    omega
  | [], _ :: _, _, e => by simp at e
  | _ :: _, [], _, e => by simp at e
theorem sum_nn : ∀ {b : List Int}, (∀ n ∈ b, 0 ≤ n) → 0 ≤ b.sum
  | [], _ => Int.le_refl _
  | x :: b, h => by
    rw [List.sum_cons]
    have := h x List.mem_cons_self
    have := sum_nn fun n hn => h n (List.mem_cons_of_mem _ hn)
    omega
theorem sum_kd {g : Nat} {h : List Int} (k : Kd g h) : 1 ≤ h.sum := by
  have k2 := k.2.1
  obtain ⟨n, hn, hp⟩ := k.2.2
  clear k
  induction h with
  | nil => cases hn
  | cons x h ih =>
    rw [List.sum_cons]
    have x0 := k2 x List.mem_cons_self
    have r0 := sum_nn fun n hn => k2 n (List.mem_cons_of_mem _ hn)
    rcases List.mem_cons.mp hn with e | e
    · omega
    · have := ih (fun n hn => k2 n (List.mem_cons_of_mem _ hn)) e
      omega
/-- what is below 0 somewhere stays so -/
theorem sub_neg : ∀ {b h : List Int} {k : Int}, b.length = h.length → (∀ n ∈ h, 0 ≤ n) → 0 ≤ k → nnB b = false → nnB (subR b h k) = false
  | [], [], _, _, _, _, e => by cases e
  | x :: b, y :: h, k, el, hn, hk, e => by
    unfold nnB at e ⊢
    rw [subR_cons, List.all_cons]
    rw [List.all_cons] at e
    have y0 := hn y List.mem_cons_self
    by_cases c : 0 ≤ x
    · rw [decide_eq_true c, Bool.true_and] at e
      have := sub_neg (b := b) (h := h) (k := k) (by simpa using el) (fun n hn' => hn n (List.mem_cons_of_mem _ hn')) hk e
      unfold nnB at this
      rw [this, Bool.and_false]
    · have : ¬ 0 ≤ x - k * y := by
        have := Int.mul_nonneg hk y0
        omega
      rw [decide_eq_false this, Bool.false_and]
  | [], _ :: _, _, e, _, _, _ => by simp at e
  | _ :: _, [], _, e, _, _, _ => by simp at e
theorem cnt_neg {g : Nat} : ∀ {l : List (List Int)} {b : List Int}, (∀ h ∈ l, Kd g h) → b.length = g → nnB b = false → cnt l b = 0
  | [], b, _, _, e => by
    unfold cnt
    rw [if_neg fun z => ?_]
    have : nnB b = true := nnB_iff.mpr fun n hn => by rw [zeroB_iff.mp z n hn]; exact Int.le_refl _
    rw [this] at e
    cases e
  | h :: t, b, hl, hb, e => by
    unfold cnt
    have kh := hl h List.mem_cons_self
    refine sum_zeroN fun x hx => ?_
    obtain ⟨k, _, rfl⟩ := List.mem_map.mp hx
    have eb : b.length = h.length := by rw [hb, kh.1]
    exact cnt_neg (fun h' hh => hl h' (List.mem_cons_of_mem _ hh)) (by rw [subR_len eb, hb]) (sub_neg eb kh.2.1 (by omega) e)
theorem sum_range_zero (f : Nat → Nat) {m : Nat} : ∀ {n : Nat}, (∀ k, m ≤ k → f k = 0) → m ≤ n → ((List.range n).map f).sum = ((List.range m).map f).sum
  | 0, _, h => by rw [Nat.le_zero.mp h]
  | n + 1, hf, h => by
    by_cases c : m = n + 1
    · rw [c]
    · rw [List.range_succ, List.map_append, List.sum_append, sum_range_zero f hf (by omega)]
      simp [hf n (by omega)]
theorem sub_far {g : Nat} {b h : List Int} {k : Nat} (kh : Kd g h) (hb : b.length = g) (hk : b.sum.toNat < k) : nnB (subR b h (k : Int)) = false := by
  have eb : b.length = h.length := by rw [hb, kh.1]
  cases e : nnB (subR b h (k : Int)) with
  | false => rfl
  | true =>
    have h0 := sum_nn (nnB_iff.mp e)
    rw [subR_sum eb] at h0
    have h1 := sum_kd kh
    have : (k : Int) * 1 ≤ (k : Int) * h.sum := Int.mul_le_mul_of_nonneg_left h1 (by omega)
    omega
/-- any number of turns that is great enough -/
theorem cnt_to {g : Nat} {h : List Int} {t : List (List Int)} {b : List Int} {m : Nat} (hl : ∀ x ∈ h :: t, Kd g x) (hb : b.length = g) (hm : b.sum.toNat + 1 ≤ m) : cnt (h :: t) b = ((List.range m).map fun (k : Nat) => cnt t (subR b h (k : Int))).sum := by
  have kh := hl h List.mem_cons_self
  have eb : b.length = h.length := by rw [hb, kh.1]
  rw [show cnt (h :: t) b = ((List.range (b.sum.toNat + 1)).map fun (k : Nat) => cnt t (subR b h (k : Int))).sum from rfl]
  exact (sum_range_zero _ (fun k hk => cnt_neg (fun x hx => hl x (List.mem_cons_of_mem _ hx)) (by rw [subR_len eb, hb]) (sub_far kh hb (by omega))) hm).symm
theorem sum_range_shift (f : Nat → Nat) (n : Nat) : ((List.range (n + 1)).map f).sum = f 0 + ((List.range n).map fun k => f (k + 1)).sum := by
  rw [List.range_succ_eq_map, List.map_cons, List.sum_cons, List.map_map]
  rfl
theorem sub_sum_le {g : Nat} {b h : List Int} (kh : Kd g h) (hb : b.length = g) : (subR b h 1).sum.toNat + 1 ≤ b.sum.toNat + 1 := by
  have eb : b.length = h.length := by rw [hb, kh.1]
  rw [subR_sum eb]
  have := sum_kd kh
  omega
/-- the table's own row: without the kind, and with one hamper of it taken out -/
theorem cnt_step {g : Nat} {h : List Int} {t : List (List Int)} {b : List Int} (hl : ∀ x ∈ h :: t, Kd g x) (hb : b.length = g) : cnt (h :: t) b = cnt t b + cnt (h :: t) (subR b h 1) := by
  have kh := hl h List.mem_cons_self
  have eb : b.length = h.length := by rw [hb, kh.1]
  rw [cnt_to hl hb (m := b.sum.toNat + 1 + 1) (by omega), sum_range_shift, show ((0 : Nat) : Int) = 0 from rfl, subR_zero eb, cnt_to hl (by rw [subR_len eb, hb]) (sub_sum_le kh hb)]
  congr 2
  refine List.map_congr_left fun k _ => ?_
  rw [subR_add]
  congr 2
  omega
theorem sum_map_add (f g : Nat → Nat) : ∀ l : List Nat, (l.map fun k => f k + g k).sum = (l.map f).sum + (l.map g).sum
  | [] => rfl
  | x :: l => by
    rw [List.map_cons, List.map_cons, List.map_cons, List.sum_cons, List.sum_cons, List.sum_cons, sum_map_add f g l]
    omega
/-- the same of any kind of the lot -/
theorem cnt_cut {g : Nat} : ∀ {l : List (List Int)} {b : List Int} {i : Nat} {h : List Int}, (∀ x ∈ l, Kd g x) → b.length = g → l[i]? = some h → cnt l b = cnt (l.take i ++ l.drop (i + 1)) b + cnt l (subR b h 1)
  | [], _, _, _, _, _, e => by simp at e
  | x :: l, b, 0, h, hl, hb, e => by
    cases Option.some.inj e
    exact cnt_step hl hb
  | x :: l, b, i + 1, h, hl, hb, e => by
    have e' : l[i]? = some h := e
    have kx := hl x List.mem_cons_self
    have kh : Kd g h := hl h (List.mem_cons_of_mem _ (List.mem_of_getElem? e'))
    have ebx : b.length = x.length := by rw [hb, kx.1]
    have ebh : b.length = h.length := by rw [hb, kh.1]
    have hl' : ∀ y ∈ l, Kd g y := fun y hy => hl y (List.mem_cons_of_mem _ hy)
    have hlc : ∀ y ∈ x :: (l.take i ++ l.drop (i + 1)), Kd g y := fun y hy => by
      rcases List.mem_cons.mp hy with h | h
      · rw [h]; exact kx
      · rcases List.mem_append.mp h with h | h
        · exact hl' y (List.mem_of_mem_take h)
        · exact hl' y (List.mem_of_mem_drop h)
    show cnt (x :: l) b = cnt (x :: (l.take i ++ l.drop (i + 1))) b + cnt (x :: l) (subR b h 1)
    rw [cnt_to hl hb (Nat.le_refl _), cnt_to hlc hb (Nat.le_refl _), cnt_to hl (by rw [subR_len ebh, hb]) (sub_sum_le kh hb), ← sum_map_add]
    congr 1
    refine List.map_congr_left fun k _ => ?_
    have := cnt_cut hl' (b := subR b x (k : Int)) (by rw [subR_len ebx, hb]) e'
    rw [this, subR_comm]
/-- nothing of no goods -/
theorem cnt_nought {g : Nat} : ∀ {l : List (List Int)} {b : List Int}, (∀ x ∈ l, Kd g x) → b.length = g → zeroB b = true → cnt l b = 1
  | [], b, _, _, e => by
    unfold cnt
    rw [if_pos e]
  | h :: t, b, hl, hb, e => by
    have kh := hl h List.mem_cons_self
    have eb : b.length = h.length := by rw [hb, kh.1]
    have es : b.sum = 0 := by
      clear hb eb hl
      induction b with
      | nil => rfl
      | cons x b ih =>
        rw [List.sum_cons, zeroB_iff.mp e x List.mem_cons_self, ih (zeroB_iff.mpr fun n hn => zeroB_iff.mp e n (List.mem_cons_of_mem _ hn))]
        rfl
    rw [cnt_step hl hb, cnt_nought (fun x hx => hl x (List.mem_cons_of_mem _ hx)) hb e, cnt_neg (l := h :: t) hl (by rw [subR_len eb, hb])]
    have := sub_far (k := 1) kh hb (by rw [es]; decide)
    exact this
/-- where something is made of something, some kind goes in -/
theorem cnt_some {g : Nat} {b : List Int} (hb : b.length = g) (hz : zeroB b = false) : ∀ {l : List (List Int)}, (∀ x ∈ l, Kd g x) → (∀ h ∈ l, nnB (subR b h 1) = false) → cnt l b = 0
  | [], _, _ => by
    unfold cnt
    rw [hz]
    rfl
  | h :: t, hl, hn => by
    have kh := hl h List.mem_cons_self
    have eb : b.length = h.length := by rw [hb, kh.1]
    rw [cnt_step hl hb, cnt_some hb hz (fun x hx => hl x (List.mem_cons_of_mem _ hx)) (fun x hx => hn x (List.mem_cons_of_mem _ hx)), cnt_neg (l := h :: t) hl (by rw [subR_len eb, hb]) (hn h List.mem_cons_self)]
/-- the last kind first -/
theorem cnt_last {g : Nat} {h : List Int} (kh : Kd g h) : ∀ {l : List (List Int)} {b : List Int} {m : Nat}, (∀ x ∈ l, Kd g x) → b.length = g → b.sum.toNat + 1 ≤ m → cnt (l ++ [h]) b = ((List.range m).map fun (k : Nat) => cnt l (subR b h (k : Int))).sum
  | [], b, m, _, hb, hm => cnt_to (fun x hx => by rw [List.mem_singleton.mp hx]; exact kh) hb hm
  | x :: l, b, m, hl, hb, hm => by
    have kx := hl x List.mem_cons_self
    have ebx : b.length = x.length := by rw [hb, kx.1]
    have ebh : b.length = h.length := by rw [hb, kh.1]
    have hl' : ∀ y ∈ l, Kd g y := fun y hy => hl y (List.mem_cons_of_mem _ hy)
    have hlh : ∀ y ∈ x :: (l ++ [h]), Kd g y := fun y hy => by
      rcases List.mem_cons.mp hy with e | e
      · rw [e]; exact kx
      · rcases List.mem_append.mp e with e | e
        · exact hl' y e
        · rw [List.mem_singleton.mp e]; exact kh
    have small : ∀ (z : List Int) (k : Nat), Kd g z → (subR b z (k : Int)).sum.toNat + 1 ≤ m := fun z k kz => by
      rw [subR_sum (by rw [hb, kz.1])]
      have := sum_kd kz
      have : 0 ≤ (k : Int) * z.sum := Int.mul_nonneg (by omega) (by omega)
      omega
    show cnt (x :: (l ++ [h])) b = _
    rw [cnt_to hlh hb hm]
    have e1 : ∀ j : Nat, cnt (l ++ [h]) (subR b x (j : Int)) = ((List.range m).map fun (k : Nat) => cnt l (subR (subR b x (j : Int)) h (k : Int))).sum := fun j =>
      cnt_last kh hl' (by rw [subR_len ebx, hb]) (small x j kx)
    have e2 : ∀ k : Nat, cnt (x :: l) (subR b h (k : Int)) = ((List.range m).map fun (j : Nat) => cnt l (subR (subR b x (j : Int)) h (k : Int))).sum := fun k => by
      rw [cnt_to hl (by rw [subR_len ebh, hb]) (small h k kh)]
      congr 1
      refine List.map_congr_left fun j _ => ?_
      rw [subR_comm]
    rw [show ((List.range m).map fun (k : Nat) => cnt (l ++ [h]) (subR b x (k : Int))) = ((List.range m).map fun (j : Nat) => ((List.range m).map fun (k : Nat) => cnt l (subR (subR b x (j : Int)) h (k : Int))).sum) from List.map_congr_left fun j _ => e1 j,
      show ((List.range m).map fun (k : Nat) => cnt (x :: l) (subR b h (k : Int))) = ((List.range m).map fun (k : Nat) => ((List.range m).map fun (j : Nat) => cnt l (subR (subR b x (j : Int)) h (k : Int))).sum) from List.map_congr_left fun k _ => e2 k]
    generalize List.range m = rs
    have swap : ∀ (xs ys : List Nat) (f : Nat → Nat → Nat), (xs.map fun j => (ys.map fun k => f j k).sum).sum = (ys.map fun k => (xs.map fun j => f j k).sum).sum := fun xs ys f => by
      induction xs with
      | nil =>
        rw [List.map_nil, List.sum_nil]
        refine (sum_zeroN fun z hz => ?_).symm
        obtain ⟨k, _, rfl⟩ := List.mem_map.mp hz
        rfl
      | cons x xs ih =>
        rw [List.map_cons, List.sum_cons, ih, ← sum_map_add]
        rfl
    exact swap rs rs fun j k => cnt l (subR (subR b x (j : Int)) h (k : Int))
/-! ### two lots beside one another -/
theorem subR_app {b1 b2 h1 h2 : List Int} {k : Int} (e : b1.length = h1.length) : subR (b1 ++ b2) (h1 ++ h2) k = subR b1 h1 k ++ subR b2 h2 k := by
  unfold subR
  rw [List.zip_append e, List.map_append]
theorem subR_nought : ∀ {b : List Int} {n : Nat} {k : Int}, b.length = n → subR b (List.replicate n 0) k = b
  | [], 0, _, _ => rfl
  | x :: b, n + 1, k, e => by
    rw [List.replicate_succ, subR_cons, subR_nought (by simpa using e), Int.mul_zero, Int.sub_zero]
  | [], n + 1, _, e => by simp at e
  | _ :: _, 0, _, e => by simp at e
theorem zero_app {b1 b2 : List Int} : zeroB (b1 ++ b2) = (zeroB b1 && zeroB b2) := by
  unfold zeroB
  rw [List.all_append]
theorem kd_left {g w : Nat} {h : List Int} (k : Kd g h) : Kd (g + w) (h ++ List.replicate w 0) :=
  ⟨by rw [List.length_append, List.length_replicate, k.1], fun n hn => by
    rcases List.mem_append.mp hn with e | e
    · exact k.2.1 n e
    · rw [List.eq_of_mem_replicate e]
      exact Int.le_refl _, let ⟨n, h1, h2⟩ := k.2.2; ⟨n, List.mem_append_left _ h1, h2⟩⟩
theorem kd_right {g w : Nat} {h : List Int} (k : Kd g h) : Kd (w + g) (List.replicate w 0 ++ h) :=
  ⟨by rw [List.length_append, List.length_replicate, k.1], fun n hn => by
    rcases List.mem_append.mp hn with e | e
    · rw [List.eq_of_mem_replicate e]
      exact Int.le_refl _
    · exact k.2.1 n e, let ⟨n, h1, h2⟩ := k.2.2; ⟨n, List.mem_append_right _ h1, h2⟩⟩
theorem sum_mul (f : Nat → Nat) (c : Nat) : ∀ l : List Nat, (l.map fun k => c * f k).sum = c * (l.map f).sum
  | [] => rfl
  | x :: l => by rw [List.map_cons, List.map_cons, List.sum_cons, List.sum_cons, sum_mul f c l, Nat.mul_add]
theorem sum_mul' (f : Nat → Nat) (c : Nat) : ∀ l : List Nat, (l.map fun k => f k * c).sum = (l.map f).sum * c
  | [] => by simp
  | x :: l => by rw [List.map_cons, List.map_cons, List.sum_cons, List.sum_cons, sum_mul' f c l, Nat.add_mul]
theorem cnt_right {g w : Nat} {b1 : List Int} (hb1 : b1.length = w) (n1 : ∀ n ∈ b1, 0 ≤ n) : ∀ {l : List (List Int)} {b2 : List Int}, (∀ x ∈ l, Kd g x) → b2.length = g → (∀ n ∈ b2, 0 ≤ n) → cnt (l.map fun r => List.replicate w 0 ++ r) (b1 ++ b2) = (if zeroB b1 = true then 1 else 0) * cnt l b2
  | [], b2, _, _, _ => by
    show cnt [] (b1 ++ b2) = _
    unfold cnt
    rw [zero_app]
    cases zeroB b1 <;> cases zeroB b2 <;> rfl
  | h :: t, b2, hl, hb2, n2 => by
    have kh := hl h List.mem_cons_self
    have hl' : ∀ x ∈ t, Kd g x := fun x hx => hl x (List.mem_cons_of_mem _ hx)
    have hlm : ∀ x ∈ (List.replicate w 0 ++ h) :: (t.map fun r => List.replicate w 0 ++ r), Kd (w + g) x := fun x hx => by
      rcases List.mem_cons.mp hx with e | e
      · rw [e]; exact kd_right kh
      · obtain ⟨r, h1, rfl⟩ := List.mem_map.mp e
        exact kd_right (hl' r h1)
    have es : b2.sum.toNat + 1 ≤ (b1 ++ b2).sum.toNat + 1 := by
      rw [List.sum_append]
      have := sum_nn n1
      omega
    rw [List.map_cons, cnt_to hlm (by rw [List.length_append, hb1, hb2]) (Nat.le_refl _), cnt_to hl hb2 es, ← sum_mul]
    congr 1
    refine List.map_congr_left fun k _ => ?_
    rw [subR_app (by rw [hb1, List.length_replicate]), subR_nought hb1]
    by_cases c : nnB (subR b2 h (k : Int)) = true
    · exact cnt_right hb1 n1 hl' (by rw [subR_len (by rw [hb2, kh.1]), hb2]) (nnB_iff.mp c)
    · have c' := Bool.eq_false_iff.mpr c
      rw [cnt_neg (g := w + g) (fun x hx => hlm x (List.mem_cons_of_mem _ hx)) (by rw [List.length_append, hb1, subR_len (by rw [hb2, kh.1]), hb2]) ?_, cnt_neg hl' (by rw [subR_len (by rw [hb2, kh.1]), hb2]) c', Nat.mul_zero]
      unfold nnB at c' ⊢
      rw [List.all_append, c', Bool.and_false]
theorem cnt_beside {g1 g2 : Nat} {l2 : List (List Int)} {b2 : List Int} (h2 : ∀ x ∈ l2, Kd g2 x) (hb2 : b2.length = g2) (n2 : ∀ n ∈ b2, 0 ≤ n) : ∀ {l1 : List (List Int)} {b1 : List Int}, (∀ x ∈ l1, Kd g1 x) → b1.length = g1 → (∀ n ∈ b1, 0 ≤ n) →
    cnt ((l1.map fun r => r ++ List.replicate g2 0) ++ l2.map fun r => List.replicate g1 0 ++ r) (b1 ++ b2) = cnt l1 b1 * cnt l2 b2
  | [], b1, _, hb1, n1 => by
    rw [List.map_nil, List.nil_append, cnt_right hb1 n1 h2 hb2 n2]
    rfl
  | h :: t, b1, hl, hb1, n1 => by
    have kh := hl h List.mem_cons_self
    have hl' : ∀ x ∈ t, Kd g1 x := fun x hx => hl x (List.mem_cons_of_mem _ hx)
    have hlm : ∀ x ∈ (h ++ List.replicate g2 0) :: ((t.map fun r => r ++ List.replicate g2 0) ++ l2.map fun r => List.replicate g1 0 ++ r), Kd (g1 + g2) x := fun x hx => by
      rcases List.mem_cons.mp hx with e | e
      · rw [e]; exact kd_left kh
      · rcases List.mem_append.mp e with e | e
        · obtain ⟨r, q1, rfl⟩ := List.mem_map.mp e
          exact kd_left (hl' r q1)
        · obtain ⟨r, q1, rfl⟩ := List.mem_map.mp e
          exact kd_right (h2 r q1)
    have es : b1.sum.toNat + 1 ≤ (b1 ++ b2).sum.toNat + 1 := by
      rw [List.sum_append]
      have := sum_nn n2
      omega
    have eb : b1.length = h.length := by rw [hb1, kh.1]
    rw [List.map_cons, List.cons_append, cnt_to hlm (by rw [List.length_append, hb1, hb2]) (Nat.le_refl _), cnt_to hl hb1 es, ← sum_mul']
    congr 1
    refine List.map_congr_left fun k _ => ?_
    rw [subR_app eb, subR_nought hb2]
    by_cases c : nnB (subR b1 h (k : Int)) = true
    · exact cnt_beside h2 hb2 n2 hl' (by rw [subR_len eb, hb1]) (nnB_iff.mp c)
    · have c' := Bool.eq_false_iff.mpr c
      rw [cnt_neg (g := g1 + g2) (fun x hx => hlm x (List.mem_cons_of_mem _ hx)) (by rw [List.length_append, hb2, subR_len eb, hb1]) ?_, cnt_neg hl' (by rw [subR_len eb, hb1]) c', Nat.zero_mul]
      unfold nnB at c' ⊢
      rw [List.all_append, c', Bool.false_and]
end HL

namespace HL
/-! ### ways of great amounts of one good, by rounds of sixty -/
def ch : Nat → Nat → Nat
  | _, 0 => 1
  | 0, _ + 1 => 0
  | n + 1, k + 1 => ch n k + ch n (k + 1)
theorem ch_zero (n : Nat) : ch n 0 = 1 := by cases n <;> rfl
theorem ch_far : ∀ {n k : Nat}, n < k → ch n k = 0
  | 0, 0, h => absurd h (Nat.lt_irrefl _)
  | 0, _ + 1, _ => rfl
  | n + 1, 0, h => absurd h (Nat.not_lt_zero _)
  | n + 1, k + 1, h => by
    show ch n k + ch n (k + 1) = 0
    rw [ch_far (by omega), ch_far (by omega)]
theorem ch_self : ∀ n : Nat, ch n n = 1
  | 0 => rfl
  | n + 1 => by
    show ch n n + ch n (n + 1) = 1
    rw [ch_self n, ch_far (by omega)]
/-- one step of choices -/
theorem ch_step : ∀ (n k : Nat), (ch n (k + 1) : Int) * ((k : Int) + 1) = (ch n k : Int) * ((n : Int) - (k : Int))
  | 0, 0 => by simp [ch]
  | 0, k + 1 => by simp [ch]
  | n + 1, 0 => by
    have ih := ch_step n 0
    have e : ch (n + 1) 1 = ch n 0 + ch n 1 := rfl
    rw [ch_zero] at ih
    rw [e, ch_zero, ch_zero]
    simp at ih ⊢
    omega
  | n + 1, k + 1 => by
    have i1 := ch_step n k
    have i2 := ch_step n (k + 1)
    have e1 : ch (n + 1) (k + 1 + 1) = ch n (k + 1) + ch n (k + 1 + 1) := rfl
    have e2 : ch (n + 1) (k + 1) = ch n k + ch n (k + 1) := rfl
    rw [e1, e2]
    generalize ch n k = x at *
    generalize ch n (k + 1) = y at *
    generalize ch n (k + 1 + 1) = z at *
    simp only [Int.natCast_add, Int.natCast_one] at *
    grind
def Bm : Nat → Nat → Int
  | 0, 0 => 1
  | 0, _ + 1 => 0
  | n + 1, t => (ch (t + n) n : Nat)
def Ym (n : Nat) : Nat → Int
  | 0 => 0
  | t + 1 => Bm (n + 1) t
theorem Ym_step (n : Nat) : ∀ t, Ym n (t + 1) = Ym n t + Bm n t
  | 0 => by
    show ((ch (0 + n) n : Nat) : Int) = 0 + Bm n 0
    rw [Nat.zero_add, ch_self]
    cases n with
    | zero => rfl
    | succ n =>
      show _ = 0 + ((ch (0 + n) n : Nat) : Int)
      rw [Nat.zero_add, ch_self]
      rfl
  | t + 1 => by
    show ((ch (t + 1 + n) n : Nat) : Int) = ((ch (t + n) n : Nat) : Int) + Bm n (t + 1)
    cases n with
    | zero =>
      rw [ch_zero, ch_zero]
      rfl
    | succ n =>
      show _ = _ + ((ch (t + 1 + n) n : Nat) : Int)
      have e : ch (t + 1 + (n + 1)) (n + 1) = ch (t + 1 + n) n + ch (t + 1 + n) (n + 1) := rfl
      have e2 : t + (n + 1) = t + 1 + n := by omega
      rw [e, e2]
      omega
def sumN (f : Nat → Int) : Nat → Int
  | 0 => 0
  | n + 1 => sumN f n + f n
theorem sumN_same {f g : Nat → Int} : ∀ {n : Nat}, (∀ t, t < n → f t = g t) → sumN f n = sumN g n
  | 0, _ => rfl
  | n + 1, h => by
    show sumN f n + f n = sumN g n + g n
    rw [sumN_same fun t ht => h t (by omega), h n (by omega)]
theorem sumN_zero {f : Nat → Int} : ∀ {n : Nat}, (∀ t, t < n → f t = 0) → sumN f n = 0
  | 0, _ => rfl
  | n + 1, h => by
    show sumN f n + f n = 0
    rw [sumN_zero fun t ht => h t (by omega), h n (by omega)]
    rfl
theorem sumN_sub (f g : Nat → Int) : ∀ n : Nat, sumN (fun t => f t - g t) n = sumN f n - sumN g n
  | 0 => rfl
  | n + 1 => by
    show sumN _ n + (f n - g n) = (sumN f n + f n) - (sumN g n + g n)
    rw [sumN_sub f g n]
    omega
theorem sumN_more {f : Nat → Int} {n : Nat} : ∀ {m : Nat}, n ≤ m → (∀ t, n ≤ t → t < m → f t = 0) → sumN f m = sumN f n
  | 0, h, _ => by
    have : n = 0 := by omega
    rw [this]
  | m + 1, h, hz => by
    by_cases e : n = m + 1
    · rw [e]
    · show sumN f m + f m = _
      rw [sumN_more (m := m) (by omega) fun t h1 h2 => hz t h1 (by omega), hz m (by omega) (by omega), Int.add_zero]
theorem sumN_shift (f : Nat → Int) : ∀ n : Nat, sumN f (n + 1) = f 0 + sumN (fun t => f (t + 1)) n
  | 0 => by
    show 0 + f 0 = f 0 + 0
    omega
  | n + 1 => by
    show sumN f (n + 1) + f (n + 1) = f 0 + (sumN (fun t => f (t + 1)) n + f (n + 1))
    rw [sumN_shift f n]
    omega
/-- Abel -/
theorem abel (x b : Nat → Int) (Y : Nat → Int) (h0 : Y 0 = 0) (hs : ∀ t, Y (t + 1) = Y t + b t) : ∀ n : Nat, sumN (fun t => (x t - x (t + 1)) * Y (t + 1)) n + x n * Y n = sumN (fun t => x t * b t) n
  | 0 => by
    show 0 + x 0 * Y 0 = 0
    rw [h0]
    simp
  | n + 1 => by
    have ih := abel x b Y h0 hs n
    show sumN _ n + (x n - x (n + 1)) * Y (n + 1) + x (n + 1) * Y (n + 1) = sumN _ n + x n * b n
    rw [← ih, hs n]
    grind
/-- shares, the sizes from the last to the first -/
def shR : List Int → Int → Int
  | [], j => if j = 0 then 1 else 0
  | h :: rs, j => sumN (fun m => shR rs (j - (m : Int) * h)) (60 / h).toNat
def Dv (h : Int) : Prop := 0 < h ∧ ∃ q : Nat, (60 / h).toNat = q ∧ (q : Int) * h = 60
theorem dv_six {h : Int} (h1 : 1 ≤ h) (h6 : h ≤ 6) : Dv h := by
  have : h = 1 ∨ h = 2 ∨ h = 3 ∨ h = 4 ∨ h = 5 ∨ h = 6 := by omega
  rcases this with e | e | e | e | e | e <;> (subst e; exact ⟨by decide, _, rfl, by decide⟩)
theorem shR_neg : ∀ {rs : List Int} {j : Int}, (∀ h ∈ rs, Dv h) → j < 0 → shR rs j = 0
  | [], j, _, hj => by
    unfold shR
    rw [if_neg (by omega)]
  | h :: rs, j, hr, hj => by
    unfold shR
    refine sumN_zero fun t _ => shR_neg (fun x hx => hr x (List.mem_cons_of_mem _ hx)) ?_
    have := Int.mul_nonneg (show (0 : Int) ≤ (t : Int) by omega) (Int.le_of_lt (hr h List.mem_cons_self).1)
    omega
theorem sh_tel {h : Int} {rs : List Int} {j : Int} (hd : Dv h) : shR (h :: rs) j - shR (h :: rs) (j - h) = shR rs j - shR rs (j - 60) := by
  obtain ⟨h0, q, e, eq⟩ := hd
  show sumN (fun m => shR rs (j - (m : Int) * h)) (60 / h).toNat - sumN (fun m => shR rs (j - h - (m : Int) * h)) (60 / h).toNat = _
  rw [e]
  have h1 := sumN_shift (fun m : Nat => shR rs (j - (m : Int) * h)) q
  have h2 : sumN (fun m : Nat => shR rs (j - (m : Int) * h)) (q + 1) = sumN (fun m : Nat => shR rs (j - (m : Int) * h)) q + shR rs (j - (q : Int) * h) := rfl
  rw [eq] at h2
  have h3 : sumN (fun t : Nat => shR rs (j - ((t + 1 : Nat) : Int) * h)) q = sumN (fun m : Nat => shR rs (j - h - (m : Int) * h)) q := sumN_same fun t _ => by
    congr 1
    rw [Int.natCast_add, Int.add_mul]
    omega
  rw [h2] at h1
  rw [← h3]
  have e0 : j - ((0 : Nat) : Int) * h = j := by simp
  rw [e0] at h1
  omega
/-- the ways as the program adds them up -/
def GQ (rs : List Int) (a : Int) (N : Nat) : Int := sumN (fun t => shR rs (a - 60 * (t : Int)) * Bm rs.length t) N
theorem GQ_step {h : Int} {rs : List Int} {a : Int} {N : Nat} (hd : ∀ x ∈ h :: rs, Dv x) (hN : a < 60 * (N : Int)) : GQ (h :: rs) a N - GQ (h :: rs) (a - h) N = GQ rs a N := by
  unfold GQ
  rw [← sumN_sub]
  have hA := abel (fun t => shR rs (a - 60 * (t : Int))) (Bm rs.length) (Ym rs.length) rfl (Ym_step _) N
  have hz : shR rs (a - 60 * (N : Int)) = 0 := shR_neg (fun x hx => hd x (List.mem_cons_of_mem _ hx)) (by omega)
  rw [hz, Int.zero_mul, Int.add_zero] at hA
  rw [← hA]
  refine sumN_same fun t _ => ?_
  have ht := sh_tel (rs := rs) (j := a - 60 * (t : Int)) (hd h List.mem_cons_self)
  have e1 : a - h - 60 * (t : Int) = a - 60 * (t : Int) - h := by omega
  have e2 : a - 60 * ((t + 1 : Nat) : Int) = a - 60 * (t : Int) - 60 := by
    rw [Int.natCast_add, Int.mul_add]
    omega
  rw [e1, e2, ← ht, Int.sub_mul]
  rfl
theorem GQ_neg {rs : List Int} {a : Int} {N : Nat} (hd : ∀ x ∈ rs, Dv x) (ha : a < 0) : GQ rs a N = 0 := sumN_zero fun t _ => by rw [shR_neg hd (by omega), Int.zero_mul]
theorem GQ_most {rs : List Int} {a : Int} {N M : Nat} (hd : ∀ x ∈ rs, Dv x) (h : N ≤ M) (hN : a < 60 * (N : Int)) : GQ rs a M = GQ rs a N :=
  sumN_more h fun t h1 _ => by rw [shR_neg hd (by omega), Int.zero_mul]
abbrev ones (hs : List Int) : List (List Int) := hs.map fun h => [h]
theorem kd_one {hs : List Int} (hd : ∀ x ∈ hs, 0 < x) : ∀ r ∈ ones hs, Kd 1 r := fun r hr => by
  obtain ⟨x, hx, rfl⟩ := List.mem_map.mp hr
  have := hd x hx
  exact ⟨rfl, fun n hn => by rw [List.mem_singleton.mp hn]; omega, x, List.mem_cons_self, this⟩
theorem cnt_one_neg {hs : List Int} {a : Int} (hd : ∀ x ∈ hs, 0 < x) (ha : a < 0) : cnt (ones hs) [a] = 0 := cnt_neg (kd_one hd) rfl (by simp [nnB]; omega)
/-- what the program adds up is how many ways there are -/
theorem GQ_cnt : ∀ {rs : List Int} {a : Int} {N : Nat}, (∀ x ∈ rs, Dv x) → a < 60 * (N : Int) → GQ rs a N = (cnt (ones rs.reverse) [a] : Nat)
  | [], a, N, hd, hN => by
    by_cases ha : a < 0
    · rw [GQ_neg hd ha, cnt_one_neg (fun x hx => by cases hx) ha]
      rfl
    · have hc : cnt (ones ([] : List Int).reverse) [a] = if a = 0 then 1 else 0 := by
        show cnt [] [a] = _
        unfold cnt
        by_cases e : a = 0
        · simp [zeroB, e]
        · simp [zeroB, e]
      rw [hc]
      cases N with
      | zero => omega
      | succ N =>
        unfold GQ
        rw [sumN_shift, sumN_zero fun t _ => by show _ * (0 : Int) = 0; rw [Int.mul_zero]]
        show shR [] (a - 60 * ((0 : Nat) : Int)) * 1 + 0 = _
        unfold shR
        simp
        by_cases e : a = 0
        · simp [e]
        · simp [e]
  | h :: rs, a, N, hd, hN => by
    have hp : ∀ x ∈ (h :: rs).reverse, 0 < x := fun x hx => (hd x (List.mem_reverse.mp hx)).1
    have hh := (hd h List.mem_cons_self).1
    -- by the amount
    have main : ∀ (n : Nat) (a : Int), a < (n : Int) → a < 60 * (N : Int) → GQ (h :: rs) a N = (cnt (ones (h :: rs).reverse) [a] : Nat) := by
      intro n
      induction n with
      | zero =>
        intro a ha _
        rw [GQ_neg hd (by omega), cnt_one_neg hp (by omega)]
        rfl
      | succ n ih =>
        intro a ha haN
        by_cases hneg : a < 0
        · rw [GQ_neg hd hneg, cnt_one_neg hp hneg]
          rfl
        · have s1 := GQ_step (a := a) (N := N) hd haN
          rw [ih (a - h) (by omega) (by omega), GQ_cnt (fun x hx => hd x (List.mem_cons_of_mem _ hx)) haN] at s1
          have er : ones (h :: rs).reverse = ones rs.reverse ++ [[h]] := by simp
          have c1 := cnt_cut (g := 1) (l := ones (h :: rs).reverse) (b := [a]) (i := (ones rs.reverse).length) (h := [h]) (kd_one hp) rfl (by rw [er, List.getElem?_append_right (Nat.le_refl _), Nat.sub_self]; rfl)
          have e1 : (ones (h :: rs).reverse).take (ones rs.reverse).length ++ (ones (h :: rs).reverse).drop ((ones rs.reverse).length + 1) = ones rs.reverse := by
            rw [er, List.take_left, List.drop_eq_nil_of_le (by rw [List.length_append]; exact Nat.le_refl _), List.append_nil]
          have e2 : subR [a] [h] 1 = [a - h] := by simp [subR]
          rw [e1, e2] at c1
          rw [c1, Int.natCast_add]
          omega
    exact main (a.toNat + 1) a (by omega) hN
end HL

namespace HL
open PySem PySem.Spec PyProof.Rows L2
open C8 (pss_cut)
/-! ### the text -/
def topS (i : Nat) : Stmt := PySem.Challenge.pw_hamperlot_k12_whole_great_amounts_counte.main.body.getD i (.Pass ⟨0, 0, 0, 0⟩)
abbrev sIsHold : Stmt := topS 12
abbrev sLook : Stmt := topS 13
abbrev sGoods : Stmt := topS 14
abbrev sFirst : Stmt := topS 15
abbrev sLookBill : Stmt := topS 16
abbrev sSpread : Stmt := topS 19
abbrev sChoices : Stmt := topS 20
abbrev sHM1 : Stmt := topS 21
abbrev sFeed : Stmt := topS 23
abbrev sDraw : Stmt := topS 24
abbrev sPick : Stmt := topS 25
abbrev sSame : Stmt := topS 26
abbrev sWord : Stmt := topS 27
abbrev sGreat : Stmt := topS 28
abbrev sHold : Stmt := topS 29
abbrev sLot : Stmt := topS 30
abbrev sTable : Stmt := topS 31
abbrev sFive : Stmt := topS 32
abbrev sPlaceL : Stmt := topS 33
abbrev sLaw : Stmt := topS 34
/-! ### heaps -/
/-- all that stood but at f stands -/
def Kp (f : Addr) (H H' : Hp) : Prop := ∀ b o, b ≠ f → H b = some o → H' b = some o
theorem Kp.refl (f : Addr) (H : Hp) : Kp f H H := fun _ _ _ h => h
theorem Kp.trans {f : Addr} {H H1 H2 : Hp} (a : Kp f H H1) (b : Kp f H1 H2) : Kp f H H2 := fun c o n h => b c o n (a c o n h)
theorem Same.kp {f : Addr} {H H' : Hp} (a : Same H H') : Kp f H H' := fun b o _ h => a b o h
theorem Kp.put {f : Addr} {H : Hp} {o : HO} : Kp f H (upd H f o) := fun b _ n h => by
  rw [upd_ne n]
  exact h
theorem same_new {H : Hp} {p : Addr} {o : HO} (h : H p = none) : Same H (upd H p o) := fun b x e => by
  rw [upd_ne (ne_of_none e h)]
  exact e
theorem Kp.new {f : Addr} {H : Hp} {p : Addr} {o : HO} (h : H p = none) : Kp f H (upd H p o) := Same.kp (same_new h)
/-- the feed at f -/
def FeedAt (c : Addr) (H : Hp) (f : Addr) : Prop := ∃ (ns : List Int) (i b m n : Int),
  H f = some (.lst [.ref c, .int i, .int b, .int m, .int n]) ∧ H c = some (.lst (ns.map V.int)) ∧ 0 ≤ i ∧ 0 ≤ b ∧ 0 ≤ m ∧ m < 2147483647
theorem FeedAt.same {c : Addr} {H H' : Hp} {f : Addr} (F : FeedAt c H f) (s : Same H H') : FeedAt c H' f := by
  obtain ⟨ns, i, b, m, n, h1, h2, h3⟩ := F
  exact ⟨ns, i, b, m, n, s _ _ h1, s _ _ h2, h3⟩
theorem FeedAt.new {c : Addr} {H : Hp} {f p : Addr} {o : HO} (F : FeedAt c H f) (h : H p = none) : FeedAt c (upd H p o) f := F.same (same_new h)
theorem FeedAt.ne {c : Addr} {H : Hp} {f p : Addr} (F : FeedAt c H f) (h : H p = none) : p ≠ f := by
  obtain ⟨ns, i, b, m, n, h1, _⟩ := F
  exact fun e => by
    rw [e, h1] at h
    cases h
theorem FeedAt.neC {c : Addr} {H : Hp} {f p : Addr} (F : FeedAt c H f) (h : H p = none) : p ≠ c := by
  obtain ⟨ns, i, b, m, n, _, h1, _⟩ := F
  exact fun e => by
    rw [e, h1] at h
    cases h
theorem FeedAt.tup {c : Addr} {H : Hp} {f p : Addr} {xs : List V} (F : FeedAt c H f) (h : H p = some (.tup xs)) : p ≠ f := by
  obtain ⟨ns, i, b, m, n, h1, _⟩ := F
  exact ne_of h h1 (fun e => by cases e)
/-- another thing than the feed is written -/
theorem FeedAt.put {c : Addr} {H : Hp} {f D : Addr} {o : HO} (F : FeedAt c H f) (n1 : D ≠ f) (n2 : D ≠ c) : FeedAt c (upd H D o) f := by
  obtain ⟨ns, i, b, m, n, h1, h2, h3⟩ := F
  exact ⟨ns, i, b, m, n, by rw [upd_ne (Ne.symm n1)]; exact h1, by rw [upd_ne (Ne.symm n2)]; exact h2, h3⟩
/-- where nothing stood behind, nothing stood ahead -/
theorem Kp.free {f : Addr} {H H' : Hp} {p : Addr} (k : Kp f H H') (n : p ≠ f) (h : H' p = none) : H p = none := by
  cases e : H p with
  | none => rfl
  | some o =>
    rw [k _ _ n e] at h
    cases h
/-- what is new since H may be written -/
theorem Kp.late {f : Addr} {H H' : Hp} {D : Addr} {o : HO} (k : Kp f H H') (nD : H D = none) : Kp f H (upd H' D o) := fun b x n e => by
  rw [upd_ne (ne_of_none e nD)]
  exact k _ _ n e
theorem same_late {H H' : Hp} {D : Addr} {o : HO} (k : Same H H') (nD : H D = none) : Same H (upd H' D o) := fun b x e => by
  rw [upd_ne (ne_of_none e nD)]
  exact k _ _ e
theorem ref_ne {c : Addr} {ns : List Int} {r : List V} : (V.ref c :: r) ≠ ns.map V.int := by
  cases ns with
  | nil => exact fun e => by cases e
  | cons x xs => exact fun e => by simp at e
/-! ### the feed -/
theorem scFeed : FnScope ["_law_script"] ["_law_script"] (defScope sFeed) := ⟨rfl, rfl, rfl, by decide +kernel, rfl, by decide +kernel, by decide +kernel⟩
theorem scDraw : FnScope ["_law_feed_here", "_law_many", "_law_cell", "_law_digit", "_law_mix"] ["_law_feed_here", "_law_many"] (defScope sDraw) := ⟨rfl, rfl, rfl, by decide +kernel, rfl, by decide +kernel, by decide +kernel⟩
section
variable {P : Program} {w : World} {K : PySem.W.Frag} {mg : Str → Option Value} {base : Heap}
def spFeed (K : PySem.W.Frag) : Sp := fun vs H Q _ => ∃ (a : Addr) (ns : List Int), vs = [.ref a] ∧ SqL K H a (ns.map V.int) ∧ ns.length ≤ 63 ∧
  ∀ H' f c, Same H H' → H f = none → FeedAt c H' f → Q (.ref f) H'
theorem cut_ints (ns : List Int) (lo hi : Option Int) : ∃ ms : List Int, cutV (ns.map V.int) lo hi = ms.map V.int := by
  refine ⟨(ns.drop (HT.sIx ns.length 0 lo)).take (HT.sIx ns.length ns.length hi - HT.sIx ns.length 0 lo), ?_⟩
  unfold cutV
  rw [List.length_map, List.map_take, List.map_drop]
theorem ok_feed {f : Addr} {fd : FuncData} {k : Nat} (F : Fun K "_law_feed" "_law_feed" sFeed f fd) (ml : mg "list" = none) : FnOk P w K mg base CX0 (k + 1) f fd ["_law_script"] (spFeed K) := by
  refine F.ok scFeed (fun vs H Q E h => ?_) (fun cdv A outer s H vs Q E hr h => ?_)
  · obtain ⟨a, ns, rfl, _⟩ := h
    rfl
  · obtain ⟨a, ns, rfl, hS, hlen, q⟩ := h
    refine ⟨_, pss_one (ps_ret (pe_lst (pa_cons (pe_callTy call_list_of (by rfl) ml (by decide +kernel) (pa_cons (pe_slice sl_list (pv 0) po_none (po_some pe_int)) pa_nil)) (pa_cons pe_int (pa_cons pe_int (pa_cons pe_int (pa_cons pe_int pa_nil))))))), ?_⟩
    obtain ⟨ms, hms⟩ := cut_ints ns none (some 63)
    refine ⟨.ref a, rfl, 63, rfl, a, ns.map V.int, rfl, hS, fun c nc => ?_⟩
    rw [hms]
    refine ⟨c, ms.map V.int, rfl, .inl (SqL.of upd_same), fun l nl => ?_⟩
    refine ⟨(by show 5 ≤ sizeLine; decide), fun g ng => ?_⟩
    refine q _ g l ?_ ?_ ⟨ms, 0, 0, 9132, 0, upd_same, ?_, by decide, by decide, by decide, by decide⟩
    · exact (same_new nc).trans ((same_new nl).trans (same_new ng))
    · exact (same_new nc).free ((same_new nl).free ng)
    · rw [upd_ne (fun e => by rw [← e, upd_same] at ng; cases ng), upd_same]

theorem atI_int {ns : List Int} {i : Int} (h0 : 0 ≤ i) (h1 : i < (ns.length : Nat)) : ∃ z, atI (ns.map V.int) i = some (.int z) := by
  have hl : i.toNat < ns.length := by omega
  refine ⟨ns[i.toNat], ?_⟩
  have e : ((i.toNat : Nat) : Int) = i := by omega
  refine (congrArg (atI (ns.map V.int)) e.symm).trans (atI_nat (j := i.toNat) ?_)
  rw [List.getElem?_map, List.getElem?_eq_getElem hl]
  rfl
def spDraw : Sp := fun vs H Q _ => ∃ (f c : Addr) (n : Int), vs = [.ref f, .int n] ∧ 1 ≤ n ∧ n ≤ 1000000000000000000000000000000 ∧ FeedAt c H f ∧
  ∀ d H', 0 ≤ d → d < n → Kp f H H' → FeedAt c H' f → Q (.int d) H'
theorem ok_draw {f : Addr} {fd : FuncData} {k : Nat} (F : Fun K "_law_draw" "_law_draw" sDraw f fd) (ml : mg "len" = none) : FnOk P w K mg base CX0 (k + 1) f fd ["_law_feed_here", "_law_many"] spDraw := by
  refine F.ok scDraw (fun vs H Q E h => ?_) (fun cdv A outer s H vs Q E hr h => ?_)
  · obtain ⟨a, c, n, rfl, _⟩ := h
    rfl
  · obtain ⟨a, c, n, rfl, n1, n2, ⟨ns, i, b, m, t, h1, h2, i0, b0, m0, m1⟩, q⟩ := h
    refine ⟨_, pss_cut (ps_if (PW.pt (pw_and (pt_cmpR op_lt (pe_ix ix_list (pv 0) pe_int (fun _ _ => rfl)) (pv 1) (nomark _))
          (pw_and1 (pt_cmpR op_lt (pe_ix ix_list (pv 0) pe_int (fun _ _ => rfl)) (pe_callB call_len_seq (by rfl) ml PySem.boot_len (pa_cons (pe_ix ix_list (pv 0) pe_int (fun _ _ => rfl)) pa_nil)) (nomark _)))))
        (pss_cons (ps_set (i := 2) scDraw.nd rfl (.inl rfl) (pe_ix ix_list (pe_ix ix_list (pv 0) pe_int (fun _ _ => rfl)) (pe_ix ix_list (pv 0) pe_int (fun _ _ => rfl)) (fun _ _ => rfl)))
        (pss_cons (ps_asg (pe_op op_add (pe_ix ix_list (pv 0) pe_int (fun _ _ => rfl)) pe_int) (pg_sub (pv 0) pe_int set_list))
        (pss_cons (ps_asg pe_int (pg_sub (pv 0) pe_int set_list))
        (pss_one (ps_if (pt_cmpR op_ge (pv 2) (pe_op op_pow pe_int pe_int) (nomark _))
          (pss_one (ps_asg (pv 2) (pg_sub (pv 0) pe_int set_list)))
          (pss_one (ps_asg (pe_op op_mod (pe_op op_add (pe_op op_add (pe_op op_mul (pe_ix ix_list (pv 0) pe_int (fun _ _ => rfl)) pe_int) (pe_op op_mul (pe_op op_mod (pv 2) pe_int) pe_int)) pe_int) pe_int) (pg_sub (pv 0) pe_int set_list))))))))
        pss_nil)
      (pss_cons (ps_if (pt_cmpR op_ge (pe_ix ix_list (pv 0) pe_int (fun _ _ => rfl)) (pv 1) (nomark _))
        (pss_cons (ps_set (i := 3) scDraw.nd rfl (.inl rfl) (pe_op op_mod (pe_ix ix_list (pv 0) pe_int (fun _ _ => rfl)) (pv 1)))
        (pss_cons (ps_asg (pe_op op_fdivW (pe_ix ix_list (pv 0) pe_int (fun _ _ => rfl)) (pv 1)) (pg_sub (pv 0) pe_int set_list))
        (pss_one (ps_ret (pv 3))))) pss_nil)
      (pss_cons (ps_asg (pe_op op_add (pe_ix ix_list (pv 0) pe_int (fun _ _ => rfl)) pe_int) (pg_sub (pv 0) pe_int set_list))
      (pss_cons (ps_set (i := 4) scDraw.nd rfl (.inl rfl) (pe_ix ix_list (pv 0) pe_int (fun _ _ => rfl)))
      (pss_cons (ps_set (i := 4) scDraw.nd rfl (.inl rfl) (pe_op op_add (pe_op op_add (pe_op op_add (pe_op op_mul (pe_op op_mod (pe_op op_mul (pv 4) (pv 4)) pe_int) pe_int) (pe_op op_mul (pv 4) pe_int)) (pe_op op_mul pe_int (pe_ix ix_list (pv 0) pe_int (fun _ _ => rfl)))) pe_int))
      (pss_cons (ps_asg (pe_op op_mod (pv 4) pe_int) (pg_sub (pv 0) pe_int set_list))
      (pss_one (ps_ret (pe_op op_mod (pe_op op_add (pe_op op_fdiv (pe_ix ix_list (pv 0) pe_int (fun _ _ => rfl)) pe_int) (pe_op op_mul (pe_op op_mod (pe_ix ix_list (pv 0) pe_int (fun _ _ => rfl)) pe_int) pe_int)) (pv 1))))))))), ?_⟩
    have hca : c ≠ a := fun e => by
      rw [e, h1] at h2
      exact ref_ne (HO.lst.inj (Option.some.inj h2))
    refine ⟨fun σ' H' => ∃ (y2 : Option V) (i b m t : Int), σ' = [some (.ref a), some (.int n), y2, none, none] ∧ Kp a H H' ∧ H' a = some (.lst [.ref c, .int i, .int b, .int m, .int t]) ∧ 0 ≤ i ∧ 0 ≤ b ∧ 0 ≤ m ∧ m < 2147483647, ?_, ?_⟩
    · refine ⟨.ref a, rfl, a, _, 2, .int b, rfl, rfl, SqL.of h1, atI_nat (j := 2) rfl, .int n, rfl, b, n, rfl, rfl, _, rfl, ite2 (fun c1 => ?_) (fun c1 => ?_)⟩
      · refine ⟨.ref a, rfl, a, _, 1, .int i, rfl, rfl, SqL.of h1, atI_nat (j := 1) rfl, .ref a, rfl, a, _, 0, .ref c, rfl, rfl, SqL.of h1, atI_nat (j := 0) rfl, c, _, rfl, .inl (SqL.of h2), i, _, rfl, rfl, _, rfl, ite2 (fun c2 => ?_) (fun c2 => ?_)⟩
        · have hi : i < (ns.length : Nat) := by
            have := of_decide_eq_true c2
            rw [List.length_map] at this
            exact this
          obtain ⟨z, hz⟩ := atI_int i0 hi
          refine ⟨.ref a, rfl, a, _, 0, .ref c, rfl, rfl, SqL.of h1, atI_nat (j := 0) rfl, .ref a, rfl, a, _, 1, .int i, rfl, rfl, SqL.of h1, atI_nat (j := 1) rfl, c, _, i, .int z, rfl, rfl, SqL.of h2, hz, ?_⟩
          refine ⟨.ref a, rfl, a, _, 1, .int i, rfl, rfl, SqL.of h1, atI_nat (j := 1) rfl, i, 1, rfl, rfl, .ref a, rfl, a, _, 1, 1, rfl, rfl, h1, rfl, ?_⟩
          refine ⟨.ref a, rfl, a, _, 2, 2, rfl, rfl, upd_same, rfl, ?_⟩
          refine ⟨.int z, rfl, 10, 18, rfl, rfl, ⟨by decide, by decide, by decide⟩, z, _, rfl, rfl, _, rfl, ite2 (fun c3 => ?_) (fun c3 => ?_)⟩
          · have z0 : (10 : Int) ^ (18 : Int).toNat ≤ z := of_decide_eq_true c3
            have z1 : (0 : Int) ≤ z := Int.le_trans (by decide) z0
            refine ⟨.int z, rfl, .ref a, rfl, a, _, 2, 2, rfl, rfl, upd_same, rfl, ?_⟩
            exact ⟨_, i + 1, z, m, t, rfl, Kp.put.trans (Kp.put.trans Kp.put), upd_same, by omega, z1, m0, m1⟩
          · refine ⟨.ref a, rfl, a, _, 3, .int m, rfl, rfl, SqL.of upd_same, atI_nat (j := 3) rfl, m, 48271, rfl, rfl, .inr ⟨by decide, by decide⟩, .int z, rfl, z, 1000000007, rfl, rfl, (by show (0 : Int) < 1000000007; decide), _, 69621, rfl, rfl, .inr ⟨by decide, by decide⟩, _, _, rfl, rfl, _, 11, rfl, rfl, _, 2147483647, rfl, rfl, (by show (0 : Int) < 2147483647; decide), .ref a, rfl, a, _, 3, 3, rfl, rfl, upd_same, rfl, ?_⟩
            exact ⟨_, i + 1, 0, _, t, rfl, Kp.put.trans (Kp.put.trans Kp.put), upd_same, by omega, by decide, Int.emod_nonneg _ (by decide), Int.emod_lt_of_pos _ (by decide)⟩
        · exact ⟨none, i, b, m, t, rfl, Kp.refl _ _, h1, i0, b0, m0, m1⟩
      · exact ⟨none, i, b, m, t, rfl, Kp.refl _ _, h1, i0, b0, m0, m1⟩
    · rintro σ' H' ⟨y2, i, b, m, t, rfl, kp, g1, i0, b0, m0, m1⟩
      have g2 : H' c = some (.lst (ns.map V.int)) := kp _ _ hca h2
      refine ⟨.ref a, rfl, a, _, 2, .int b, rfl, rfl, SqL.of g1, atI_nat (j := 2) rfl, .int n, rfl, b, n, rfl, rfl, _, rfl, ite2 (fun c1 => ?_) (fun c1 => ?_)⟩
      · refine ⟨.ref a, rfl, a, _, 2, .int b, rfl, rfl, SqL.of g1, atI_nat (j := 2) rfl, .int n, rfl, b, n, rfl, rfl, (by show (0 : Int) < n; omega), ?_⟩
        refine ⟨.ref a, rfl, a, _, 2, .int b, rfl, rfl, SqL.of g1, atI_nat (j := 2) rfl, .int n, rfl, b, n, rfl, rfl, wide_div (b := 100) (by omega) (by omega) (by decide) (by decide), .ref a, rfl, a, _, 2, 2, rfl, rfl, g1, rfl, ?_⟩
        refine ⟨_, rfl, q _ _ (Int.emod_nonneg _ (by omega)) (Int.emod_lt_of_pos _ (by omega)) (kp.trans Kp.put) ⟨ns, i, _, m, t, upd_same, ?_, i0, Int.ediv_nonneg b0 (by omega), m0, m1⟩⟩
        rw [upd_ne hca]
        exact g2
      · refine ⟨.ref a, rfl, a, _, 4, .int t, rfl, rfl, SqL.of g1, atI_nat (j := 4) rfl, t, 1, rfl, rfl, .ref a, rfl, a, _, 4, 4, rfl, rfl, g1, rfl, ?_⟩
        refine ⟨.ref a, rfl, a, _, 3, .int m, rfl, rfl, SqL.of upd_same, atI_nat (j := 3) rfl, ?_⟩
        refine ⟨.int m, rfl, .int m, rfl, m, m, rfl, rfl, .inl ⟨by omega, by omega⟩, _, 2147483587, rfl, rfl, (by show (0 : Int) < 2147483587; decide), _, 16807, rfl, rfl, .inr ⟨by decide, by decide⟩, .int m, rfl, m, 48271, rfl, rfl, .inr ⟨by decide, by decide⟩, _, _, rfl, rfl, .ref a, rfl, a, _, 4, .int (t + 1), rfl, rfl, SqL.of upd_same, atI_nat (j := 4) rfl, 97, t + 1, rfl, rfl, .inl ⟨by decide, by decide⟩, _, _, rfl, rfl, _, 12345, rfl, rfl, ?_⟩
        refine ⟨_, rfl, _, 2147483647, rfl, rfl, (by show (0 : Int) < 2147483647; decide), .ref a, rfl, a, _, 3, 3, rfl, rfl, upd_same, rfl, ?_⟩
        refine ⟨.ref a, rfl, a, _, 3, _, rfl, rfl, SqL.of upd_same, atI_nat (j := 3) rfl, _, 64, rfl, rfl, ⟨by decide, by decide⟩, .ref a, rfl, a, _, 3, _, rfl, rfl, SqL.of upd_same, atI_nat (j := 3) rfl, _, 4093, rfl, rfl, (by show (0 : Int) < 4093; decide), _, 31, rfl, rfl, .inr ⟨by decide, by decide⟩, _, _, rfl, rfl, .int n, rfl, _, n, rfl, rfl, (by show (0 : Int) < n; omega), ?_⟩
        refine q _ _ (Int.emod_nonneg _ (by omega)) (Int.emod_lt_of_pos _ (by omega)) (kp.trans (Kp.put.trans Kp.put)) ⟨ns, i, b, _, t + 1, upd_same, ?_, i0, b0, Int.emod_nonneg _ (by decide), Int.emod_lt_of_pos _ (by decide)⟩
        rw [upd_ne hca, upd_ne hca]
        exact g2
end
end HL

namespace HL
open PySem PySem.Spec PyProof.Rows L2
open C8 (pss_cut)
/-- a def of the module as its callers take it -/
structure Cal (P : Program) (w : World) (K : PySem.W.Frag) (mg : Str → Option Value) (base : Heap) (CX : CXT) (j : Nat) (x : Str) (ps : List Str) (sp : Sp) : Prop where
  ex : ∃ f fd, FnOk P w K mg base CX j f fd ps sp ∧ mg x = some (.ref f) ∧ PySem.W.keepIn K (.ref f) = true ∧ Binds K fd ps []
section
variable {P : Program} {w : World} {K : PySem.W.Frag} {mg : Str → Option Value} {base : Heap}
/-! ### pick -/
theorem atI_mem {xs : List V} {i : Int} (h0 : 0 ≤ i) (h1 : i < (xs.length : Nat)) : ∃ z, atI xs i = some z ∧ z ∈ xs ∧ xs[i.toNat]? = some z := by
  have hl : i.toNat < xs.length := by omega
  have e : ((i.toNat : Nat) : Int) = i := by omega
  exact ⟨xs[i.toNat], (congrArg (atI xs) e.symm).trans (atI_nat (j := i.toNat) (List.getElem?_eq_getElem hl)), List.getElem_mem hl, List.getElem?_eq_getElem hl⟩
/-! ### same -/
def leafV : V → Bool
  | .non => true
  | .bl _ => true
  | .int _ => true
  | .str _ => true
  | _ => false
/-- alike at depth d: leaves, or lists or tuples of such -/
def Eqd (H : Hp) : Nat → V → V → Prop
  | 0, x, y => x = y ∧ leafV x = true
  | d + 1, x, y => (x = y ∧ leafV x = true) ∨ ∃ (a b : Addr) (xs ys : List V), x = .ref a ∧ y = .ref b ∧ ((H a = some (.lst xs) ∧ H b = some (.lst ys)) ∨ (H a = some (.tup xs) ∧ H b = some (.tup ys))) ∧
      xs.length = ys.length ∧ xs.length ≤ 1000 ∧ ∀ (i : Nat) (x y : V), xs[i]? = some x → ys[i]? = some y → Eqd H d x y
theorem Eqd.same {H H' : Hp} (s : Same H H') : ∀ {d : Nat} {x y : V}, Eqd H d x y → Eqd H' d x y
  | 0, _, _, h => h
  | d + 1, _, _, .inl h => .inl h
  | d + 1, _, _, .inr ⟨a, b, xs, ys, ex, ey, hs, hl, hz, ih⟩ => .inr ⟨a, b, xs, ys, ex, ey, hs.imp (fun q => ⟨s _ _ q.1, s _ _ q.2⟩) (fun q => ⟨s _ _ q.1, s _ _ q.2⟩), hl, hz, fun i x y h1 h2 => Eqd.same s (ih i x y h1 h2)⟩
def spSame (d : Nat) : Sp := fun vs H Q _ => ∃ x y, vs = [x, y] ∧ Eqd H d x y ∧ ∀ H', Same H H' → Q (.bl true) H'
theorem scSame : FnScope ["_law_found", "_law_due", "_law_at"] ["_law_found", "_law_due"] (defScope sSame) := ⟨rfl, rfl, rfl, by decide +kernel, rfl, by decide +kernel, by decide +kernel⟩
structure Bl (mg : Str → Option Value) : Prop where
  len : mg "len" = none
  list : mg "list" = none
  tuple : mg "tuple" = none
  dict : mg "dict" = none
  str : mg "str" = none
  int : mg "int" = none
  bool : mg "bool" = none
  isinstance : mg "isinstance" = none
  all : mg "all" = none
  range : mg "range" = none
  sum : mg "sum" = none
  min : mg "min" = none
  max : mg "max" = none
  enumerate : mg "enumerate" = none
theorem ok_same_leaf {f : Addr} {fd : FuncData} {k : Nat} (F : Fun K "_law_same" "_law_same" sSame f fd) (B : Bl mg) : FnOk P w K mg base CX0 (k + 1) f fd ["_law_found", "_law_due"] (spSame 0) := by
  refine F.ok scSame (fun vs H Q E h => ?_) (fun cdv A outer s H vs Q E hr h => ?_)
  · obtain ⟨x, y, rfl, _⟩ := h
    rfl
  · obtain ⟨x, y, rfl, ⟨rfl, hlf⟩, q⟩ := h
    refine ⟨_, pss_cons (ps_if (pt_cmpR op_isN (pv 1) pe_non (nomark _)) (pss_one (ps_ret (pe_cmp (pc_isN (pv 0)) rfl))) pss_nil)
      (pss_cons (ps_if (pt_val (pe_callB call_isi (by rfl) B.isinstance (by decide +kernel) (pa_cons (pv 1) (pa_cons (pe_bltn (v := .ty "bool") (by rfl) B.bool (by decide +kernel) rfl) pa_nil))))
          (pss_one (ps_ret (pe_and (pe_callB call_isi (by rfl) B.isinstance (by decide +kernel) (pa_cons (pv 0) (pa_cons (pe_bltn (v := .ty "bool") (by rfl) B.bool (by decide +kernel) rfl) pa_nil))) (pe_one (pe_cmpR op_eq (pv 0) (pv 1) (nomark _)))))) pss_nil)
      (pss_cons (ps_if (pt_val (pe_callB call_isi (by rfl) B.isinstance (by decide +kernel) (pa_cons (pv 1) (pa_cons (pe_bltn (v := .ty "int") (by rfl) B.int (by decide +kernel) rfl) pa_nil))))
          (pss_one (ps_ret (pe_and (pe_callB call_isi (by rfl) B.isinstance (by decide +kernel) (pa_cons (pv 0) (pa_cons (pe_bltn (v := .ty "int") (by rfl) B.int (by decide +kernel) rfl) pa_nil)))
            (pe_and (pe_not (pe_callB call_isi (by rfl) B.isinstance (by decide +kernel) (pa_cons (pv 0) (pa_cons (pe_bltn (v := .ty "bool") (by rfl) B.bool (by decide +kernel) rfl) pa_nil)))) (pe_one (pe_cmpR op_eq (pv 0) (pv 1) (nomark _))))))) pss_nil)
      (pss_cons (ps_if (pt_val (pe_callB call_isi (by rfl) B.isinstance (by decide +kernel) (pa_cons (pv 1) (pa_cons (pe_bltn (v := .ty "str") (by rfl) B.str (by decide +kernel) rfl) pa_nil))))
          (pss_one (ps_ret (pe_and (pe_callB call_isi (by rfl) B.isinstance (by decide +kernel) (pa_cons (pv 0) (pa_cons (pe_bltn (v := .ty "str") (by rfl) B.str (by decide +kernel) rfl) pa_nil))) (pe_one (pe_cmpR op_eq (pv 0) (pv 1) (nomark _)))))) pss_nil)
      pss_never))), ?_⟩
    cases x with
    | non => exact ⟨_, rfl, rfl, _, rfl, iteT ⟨_, rfl, q _ (Same.refl _)⟩⟩
    | bl b =>
      refine ⟨_, rfl, rfl, _, rfl, iteF ?_⟩
      refine ⟨_, rfl, _, _, _, _, true, rfl, .ty "bool", .base (.bl b), kit_ty (by decide +kernel), _, rfl, iteT ?_⟩
      refine ⟨_, rfl, _, _, _, _, true, rfl, .ty "bool", .base (.bl b), kit_ty (by decide +kernel), _, rfl, iteT ?_⟩
      refine ⟨_, rfl, _, rfl, rfl, ?_⟩
      rw [decide_eq_true rfl]
      exact q _ (Same.refl _)
    | int i =>
      refine ⟨_, rfl, rfl, _, rfl, iteF ?_⟩
      refine ⟨_, rfl, _, _, _, _, false, rfl, .ty "bool", .base (.int i), kit_ty (by decide +kernel), _, rfl, iteF ?_⟩
      refine ⟨_, rfl, _, _, _, _, true, rfl, .ty "int", .base (.int i), kit_ty (by decide +kernel), _, rfl, iteT ?_⟩
      refine ⟨_, rfl, _, _, _, _, true, rfl, .ty "int", .base (.int i), kit_ty (by decide +kernel), _, rfl, iteT ?_⟩
      refine ⟨_, rfl, _, _, _, _, false, rfl, .ty "bool", .base (.int i), kit_ty (by decide +kernel), _, rfl, _, rfl, iteT ?_⟩
      refine ⟨_, rfl, _, rfl, rfl, ?_⟩
      rw [decide_eq_true rfl]
      exact q _ (Same.refl _)
    | str z =>
      refine ⟨_, rfl, rfl, _, rfl, iteF ?_⟩
      refine ⟨_, rfl, _, _, _, _, false, rfl, .ty "bool", .base (.str z), kit_ty (by decide +kernel), _, rfl, iteF ?_⟩
      refine ⟨_, rfl, _, _, _, _, false, rfl, .ty "int", .base (.str z), kit_ty (by decide +kernel), _, rfl, iteF ?_⟩
      refine ⟨_, rfl, _, _, _, _, true, rfl, .ty "str", .base (.str z), kit_ty (by decide +kernel), _, rfl, iteT ?_⟩
      refine ⟨_, rfl, _, _, _, _, true, rfl, .ty "str", .base (.str z), kit_ty (by decide +kernel), _, rfl, iteT ?_⟩
      refine ⟨_, rfl, _, rfl, rfl, ?_⟩
      rw [decide_eq_true rfl]
      exact q _ (Same.refl _)
    | byt b => cases hlf
    | flt b => cases hlf
    | ref a => cases hlf
    | ty n => cases hlf

theorem leaf_or {H : Hp} {d : Nat} {x y : V} (h : Eqd H d x y) (hx : leafV x = true) : x = y := by
  cases d with
  | zero => exact h.1
  | succ d =>
    rcases h with h | ⟨a, b, xs, ys, rfl, _⟩
    · exact h.1
    · cases hx
/-- what isinstance tells of a list or tuple that is tracked -/
theorem seq_ty {K : PySem.W.Frag} {H : Hp} {a b : Addr} {xs ys : List V} (h : (H a = some (.lst xs) ∧ H b = some (.lst ys)) ∨ (H a = some (.tup xs) ∧ H b = some (.tup ys))) :
    ∃ (T : String) (bt bl : Bool), TyX K H (.ref a) (.type T) ∧ TyX K H (.ref b) (.type T) ∧ kitB T "bool" = some false ∧ kitB T "int" = some false ∧ kitB T "str" = some false ∧ kitB T "dict" = some false ∧ kitB T "tuple" = some bt ∧ kitB T "list" = some bl := by
  rcases h with ⟨h1, h2⟩ | ⟨h1, h2⟩
  · exact ⟨"list", false, true, .base (.lst h1), .base (.lst h2), by decide +kernel, by decide +kernel, by decide +kernel, by decide +kernel, by decide +kernel, by decide +kernel⟩
  · exact ⟨"tuple", true, false, .base (.tup h1), .base (.tup h2), by decide +kernel, by decide +kernel, by decide +kernel, by decide +kernel, by decide +kernel, by decide +kernel⟩
theorem fnEither {CX : CXT} {k : Nat} {f : Addr} {fd : FuncData} {ps : List Str} {sp sp1 sp2 : Sp} (F1 : FnOk P w K mg base CX k f fd ps sp1) (F2 : FnOk P w K mg base CX k f fd ps sp2) (h : ∀ vs H Q E, sp vs H Q E → sp1 vs H Q E ∨ sp2 vs H Q E) : FnOk P w K mg base CX k f fd ps sp where
  len := fun vs H Q E q => (h vs H Q E q).elim (F1.len vs H Q E) (F2.len vs H Q E)
  run := fun A outer s H args us vs Q E hr e0 hb r q => (h vs H Q E q).elim (F1.run A outer s H args us vs Q E hr e0 hb r) (F2.run A outer s H args us vs Q E hr e0 hb r)
theorem yes {σ : L2.St} {H : Hp} {Q : Bool → Hp → Prop} (h : Q true H) : tYes σ H Q := h
theorem bl_self (b : Bool) : (!decide (V.bl b = V.bl b)) = false := by rw [decide_eq_true rfl]; rfl
theorem ok_same_step {f : Addr} {fd : FuncData} {d : Nat} (F : Fun K "_law_same" "_law_same" sSame f fd) (B : Bl mg) (gS : mg "_law_same" = some (.ref f)) (kS : PySem.W.keepIn K (.ref f) = true) (bS : Binds K fd ["_law_found", "_law_due"] [])
    (G : FnOk P w K mg base CX0 (d + 1) f fd ["_law_found", "_law_due"] (spSame d)) : FnOk P w K mg base CX0 (d + 2) f fd ["_law_found", "_law_due"] (spSame (d + 1)) := by
  have key : FnOk P w K mg base CX0 (d + 2) f fd ["_law_found", "_law_due"] (fun vs H Q _ => ∃ (a b : Addr) (xs ys : List V), vs = [.ref a, .ref b] ∧ ((H a = some (.lst xs) ∧ H b = some (.lst ys)) ∨ (H a = some (.tup xs) ∧ H b = some (.tup ys))) ∧
      xs.length = ys.length ∧ xs.length ≤ 1000 ∧ (∀ (i : Nat) (x y : V), xs[i]? = some x → ys[i]? = some y → Eqd H d x y) ∧ ∀ H', Same H H' → Q (.bl true) H') := by
    refine F.ok scSame (fun vs H Q E h => ?_) (fun cdv A outer s H vs Q E hr h => ?_)
    · obtain ⟨a, b, xs, ys, rfl, _⟩ := h
      rfl
    · obtain ⟨a, b, xs, ys, rfl, hs, hl, hz, hE, q⟩ := h
      refine ⟨_, pss_cons (ps_if (pt_cmpR op_isN (pv 1) pe_non (nomark _)) pss_never pss_nil)
        (pss_cons (ps_if (pt_val (pe_callB call_isi (by rfl) B.isinstance (by decide +kernel) (pa_cons (pv 1) (pa_cons (pe_bltn (v := .ty "bool") (by rfl) B.bool (by decide +kernel) rfl) pa_nil)))) pss_never pss_nil)
        (pss_cons (ps_if (pt_val (pe_callB call_isi (by rfl) B.isinstance (by decide +kernel) (pa_cons (pv 1) (pa_cons (pe_bltn (v := .ty "int") (by rfl) B.int (by decide +kernel) rfl) pa_nil)))) pss_never pss_nil)
        (pss_cons (ps_if (pt_val (pe_callB call_isi (by rfl) B.isinstance (by decide +kernel) (pa_cons (pv 1) (pa_cons (pe_bltn (v := .ty "str") (by rfl) B.str (by decide +kernel) rfl) pa_nil)))) pss_never pss_nil)
        (pss_cons (ps_if (pt_val (pe_callB call_isi (by rfl) B.isinstance (by decide +kernel) (pa_cons (pv 1) (pa_cons (pe_bltn (v := .ty "dict") (by rfl) B.dict (by decide +kernel) rfl) pa_nil)))) pss_never pss_nil)
        (pss_cons (ps_if (PW.pt (pw_or (pt_cmpR op_ne (pe_callB call_isi (by rfl) B.isinstance (by decide +kernel) (pa_cons (pv 1) (pa_cons (pe_bltn (v := .ty "tuple") (by rfl) B.tuple (by decide +kernel) rfl) pa_nil)))
              (pe_callB call_isi (by rfl) B.isinstance (by decide +kernel) (pa_cons (pv 0) (pa_cons (pe_bltn (v := .ty "tuple") (by rfl) B.tuple (by decide +kernel) rfl) pa_nil))) (nomark _))
            (pw_or1 (pt_cmpR op_ne (pe_callB call_isi (by rfl) B.isinstance (by decide +kernel) (pa_cons (pv 1) (pa_cons (pe_bltn (v := .ty "list") (by rfl) B.list (by decide +kernel) rfl) pa_nil)))
              (pe_callB call_isi (by rfl) B.isinstance (by decide +kernel) (pa_cons (pv 0) (pa_cons (pe_bltn (v := .ty "list") (by rfl) B.list (by decide +kernel) rfl) pa_nil))) (nomark _))))) pss_never pss_nil)
        (pss_cons (ps_if (pt_cmpR op_ne (pe_callB call_len_seq (by rfl) B.len PySem.boot_len (pa_cons (pv 0) pa_nil)) (pe_callB call_len_seq (by rfl) B.len PySem.boot_len (pa_cons (pv 1) pa_nil)) (nomark _)) pss_never pss_nil)
        (pss_one (ps_ret (pe_callB (cr_all rfl) (by rfl) B.all (by decide +kernel) (pa_cons
          (pe_lc (own := [("_law_at", 2)]) (g := gName 2) (tt := tYes) rfl scSame.nd (pi_range1 (by rfl) B.range (pa_cons (pe_callB call_len_seq (by rfl) B.len PySem.boot_len (pa_cons (pv 1) pa_nil)) pa_nil))
            (blkOk_by (own := [("_law_at", 2)]) (N := ["_law_found", "_law_due", "_law_at"]) (sc := defScope sSame) (by decide +kernel)) (fun _ _ _ _ _ => pg_name (i := 2) scSame.nd rfl (Or.inl rfl)) (fun _ _ _ _ _ => pts_nil)
            (fun _ _ _ _ _ => pe_call G hr (by rfl) gS kS bS .nil pass0 (pa_cons (pe_ix (r := rIx K) ix_seq (pv 0) (pv 2) (fun _ _ => rfl)) (pa_cons (pe_ix (r := rIx K) ix_seq (pv 1) (pv 2) (fun _ _ => rfl)) pa_nil)))) pa_nil)))))))))), ?_⟩
      obtain ⟨T, bt, bl, ta, tb, k1, k2, k3, k4, k5, k6⟩ := seq_ty (K := K) hs
      refine ⟨.ref b, rfl, rfl, _, rfl, iteF ?_⟩
      refine ⟨.ref b, rfl, _, _, _, _, false, rfl, .ty "bool", tb, kit_ty k1, _, rfl, iteF ?_⟩
      refine ⟨.ref b, rfl, _, _, _, _, false, rfl, .ty "int", tb, kit_ty k2, _, rfl, iteF ?_⟩
      refine ⟨.ref b, rfl, _, _, _, _, false, rfl, .ty "str", tb, kit_ty k3, _, rfl, iteF ?_⟩
      refine ⟨.ref b, rfl, _, _, _, _, false, rfl, .ty "dict", tb, kit_ty k4, _, rfl, iteF ?_⟩
      refine ⟨.ref b, rfl, _, _, _, _, bt, rfl, .ty "tuple", tb, kit_ty k5, .ref a, rfl, _, _, _, _, bt, rfl, .ty "tuple", ta, kit_ty k5, rfl, _, rfl, ?_⟩
      rw [bl_self]
      refine iteF ?_
      refine ⟨.ref b, rfl, _, _, _, _, bl, rfl, .ty "list", tb, kit_ty k6, .ref a, rfl, _, _, _, _, bl, rfl, .ty "list", ta, kit_ty k6, rfl, _, rfl, ?_⟩
      rw [bl_self]
      refine iteF ?_
      have sA : SqL K H a xs ∨ SqT K H a xs := hs.imp (fun q => SqL.of q.1) (fun q => SqT.of q.1)
      have sB : SqL K H b ys ∨ SqT K H b ys := hs.imp (fun q => SqL.of q.2) (fun q => SqT.of q.2)
      refine ⟨.ref a, rfl, a, xs, rfl, sA, .ref b, rfl, b, ys, rfl, sB, rfl, _, rfl, ?_⟩
      rw [hl, decide_eq_true rfl]
      refine iteF ?_
      refine ⟨.ref b, rfl, b, ys, rfl, sB, (ys.length : Nat), rfl, by omega, by omega, fun D nD => ?_⟩
      refine lc_range (lo := 0) (n := ((ys.length : Nat) : Int).toNat) (fun i H' => Same H H' ∧ H' D = some (.lst ((List.replicate i true).map V.bl))) ⟨same_new nD, upd_same⟩ (fun i H' hi ⟨sm, hD⟩ => ?_) (fun H' ⟨sm, hD⟩ => ?_)
      · have hi' : i < ys.length := by omega
        have hx : xs[i]? = some (xs[i]'(by omega)) := List.getElem?_eq_getElem (by omega)
        have hy : ys[i]? = some ys[i] := List.getElem?_eq_getElem hi'
        have ez : (0 : Int) + (i : Nat) = ((i : Nat) : Int) := by omega
        rw [ez]
        have sA' : rIx K (.ref a) (.int ((i : Nat) : Int)) H' = rIx K (.ref a) (.int ((i : Nat) : Int)) H' := rfl
        have rdA : ∀ Q : VK, Q (xs[i]'(by omega)) H' → rIx K (.ref a) (.int ((i : Nat) : Int)) H' Q := fun Q hQ => by
          rcases hs with ⟨h1, _⟩ | ⟨h1, _⟩
          · exact .inl ⟨a, xs, _, _, rfl, rfl, SqL.of (sm _ _ h1), atI_nat hx, hQ⟩
          · exact .inr (.inl ⟨a, xs, _, _, rfl, rfl, SqT.of (sm _ _ h1), atI_nat hx, hQ⟩)
        have rdB : ∀ Q : VK, Q ys[i] H' → rIx K (.ref b) (.int ((i : Nat) : Int)) H' Q := fun Q hQ => by
          rcases hs with ⟨_, h1⟩ | ⟨_, h1⟩
          · exact .inl ⟨b, ys, _, _, rfl, rfl, SqL.of (sm _ _ h1), atI_nat hy, hQ⟩
          · exact .inr (.inl ⟨b, ys, _, _, rfl, rfl, SqT.of (sm _ _ h1), atI_nat hy, hQ⟩)
        refine ⟨rfl, yes (iteT ?_)⟩
        refine ⟨.ref a, rfl, .int ((i : Nat) : Int), rfl, rdA _ ⟨.ref b, rfl, .int ((i : Nat) : Int), rfl, rdB _ ?_⟩⟩
        refine ⟨_, _, rfl, (hE i _ _ hx hy).same sm, fun H2 s2 => ⟨_, s2 _ _ hD, ?_, ?_, ?_⟩⟩
        · rw [List.length_map, List.length_replicate]
          exact small1000 (by omega)
        · exact fun c o e => by
            have nc : c ≠ D := fun z => by rw [z, nD] at e; cases e
            rw [upd_ne nc]
            exact s2 _ _ (sm _ _ e)
        · rw [upd_same, List.replicate_succ', List.map_append]
          rfl
      · refine ⟨D, _, rfl, SqL.of hD, ?_⟩
        have e : (List.replicate ((ys.length : Nat) : Int).toNat true).all id = true := by
          rw [List.all_eq_true]
          intro x hx
          exact (List.eq_of_mem_replicate hx)
        rw [e]
        exact q _ sm
  have leaf : FnOk P w K mg base CX0 (d + 2) f fd ["_law_found", "_law_due"] (spSame 0) := ok_same_leaf F B
  exact fnEither key leaf fun vs H Q E ⟨x, y, ev, h, q⟩ => by
    rcases h with h | ⟨a, b, xs, ys, rfl, rfl, hs, hl, hz, hE⟩
    · exact .inr ⟨x, y, ev, h, q⟩
    · exact .inl ⟨a, b, xs, ys, ev, hs, hl, hz, hE, q⟩
theorem ok_same {f : Addr} {fd : FuncData} (F : Fun K "_law_same" "_law_same" sSame f fd) (B : Bl mg) (gS : mg "_law_same" = some (.ref f)) (bS : Binds K fd ["_law_found", "_law_due"] []) :
    ∀ d : Nat, FnOk P w K mg base CX0 (d + 1) f fd ["_law_found", "_law_due"] (spSame d)
  | 0 => ok_same_leaf F B
  | d + 1 => ok_same_step F B gS F.kp bS (ok_same F B gS bS d)
end
end HL

namespace HL
open PySem PySem.Spec PyProof.Rows L2
open C8 (pss_cut)
/-! ### rows and lots in the heap -/
def Rows (H : Hp) : List Addr → List (List Int) → Prop
  | [], [] => True
  | a :: as, r :: rs => H a = some (.tup (r.map V.int)) ∧ Rows H as rs
  | _, _ => False
theorem Rows.len {H : Hp} : ∀ {as : List Addr} {ll : List (List Int)}, Rows H as ll → as.length = ll.length
  | [], [], _ => rfl
  | a :: as, r :: rs, h => by rw [List.length_cons, List.length_cons, Rows.len h.2]
  | [], _ :: _, h => h.elim
  | _ :: _, [], h => h.elim
theorem Rows.mono {H H' : Hp} : ∀ {as : List Addr} {ll : List (List Int)}, Rows H as ll → (∀ a xs, H a = some (.tup xs) → H' a = some (.tup xs)) → Rows H' as ll
  | [], [], _, _ => True.intro
  | a :: as, r :: rs, h, k => ⟨k _ _ h.1, Rows.mono h.2 k⟩
  | [], _ :: _, h, _ => h.elim
  | _ :: _, [], h, _ => h.elim
theorem Rows.same {H H' : Hp} {as : List Addr} {ll : List (List Int)} (h : Rows H as ll) (s : Same H H') : Rows H' as ll := h.mono fun a xs e => s _ _ e
theorem Rows.kp {H H' : Hp} {f c : Addr} {as : List Addr} {ll : List (List Int)} (h : Rows H as ll) (F : FeedAt c H f) (k : Kp f H H') : Rows H' as ll := h.mono fun a xs e => k _ _ (F.tup e) e
theorem Rows.app {H : Hp} : ∀ {as bs : List Addr} {ll mm : List (List Int)}, Rows H as ll → Rows H bs mm → Rows H (as ++ bs) (ll ++ mm)
  | [], _, [], _, _, h => h
  | a :: as, bs, r :: rs, mm, h, k => ⟨h.1, Rows.app h.2 k⟩
  | [], _, _ :: _, _, h, _ => h.elim
  | _ :: _, _, [], _, h, _ => h.elim
theorem Rows.take {H : Hp} : ∀ {as : List Addr} {ll : List (List Int)} (n : Nat), Rows H as ll → Rows H (as.take n) (ll.take n)
  | [], [], n, _ => by rw [List.take_nil, List.take_nil]; exact True.intro
  | _ :: _, _ :: _, 0, _ => True.intro
  | a :: as, r :: rs, n + 1, h => ⟨h.1, Rows.take n h.2⟩
  | [], _ :: _, _, h => h.elim
  | _ :: _, [], _, h => h.elim
theorem Rows.drop {H : Hp} : ∀ {as : List Addr} {ll : List (List Int)} (n : Nat), Rows H as ll → Rows H (as.drop n) (ll.drop n)
  | [], [], n, _ => by rw [List.drop_nil, List.drop_nil]; exact True.intro
  | _ :: _, _ :: _, 0, h => h
  | a :: as, r :: rs, n + 1, h => Rows.drop n h.2
  | [], _ :: _, _, h => h.elim
  | _ :: _, [], _, h => h.elim
theorem Rows.at {H : Hp} : ∀ {as : List Addr} {ll : List (List Int)} {i : Nat} {a : Addr}, Rows H as ll → as[i]? = some a → ∃ r, ll[i]? = some r ∧ H a = some (.tup (r.map V.int))
  | [], [], _, _, _, e => by simp at e
  | b :: as, r :: rs, 0, a, h, e => by
    have e' : b = a := Option.some.inj e
    subst e'
    exact ⟨r, rfl, h.1⟩
  | b :: as, r :: rs, i + 1, a, h, e => Rows.at (i := i) h.2 e
  | [], _ :: _, _, _, h, _ => h.elim
  | _ :: _, [], _, _, h, _ => h.elim
/-- a lot in the heap -/
def LotAt (H : Hp) (p : Addr) (ll : List (List Int)) : Prop := ∃ as : List Addr, H p = some (.tup (as.map V.ref)) ∧ Rows H as ll
theorem LotAt.same {H H' : Hp} {p : Addr} {ll : List (List Int)} (h : LotAt H p ll) (s : Same H H') : LotAt H' p ll := by
  obtain ⟨as, h1, h2⟩ := h
  exact ⟨as, s _ _ h1, h2.same s⟩
theorem LotAt.kp {H H' : Hp} {f c p : Addr} {ll : List (List Int)} (h : LotAt H p ll) (F : FeedAt c H f) (k : Kp f H H') : LotAt H' p ll := by
  obtain ⟨as, h1, h2⟩ := h
  exact ⟨as, k _ _ (F.tup h1) h1, h2.kp F k⟩
/-- a kind as it should be, of g amounts to m -/
def GoodRow (g m : Int) (r : List Int) : Prop := r.length = g.toNat ∧ (∀ n ∈ r, 0 ≤ n ∧ n ≤ m) ∧ ∃ n ∈ r, 0 < n
theorem pos_of_sum : ∀ {r : List Int}, (∀ n ∈ r, 0 ≤ n) → r.sum ≠ 0 → ∃ n ∈ r, 0 < n
  | [], _, h => absurd rfl h
  | x :: r, h0, h => by
    by_cases hx : 0 < x
    · exact ⟨x, List.mem_cons_self, hx⟩
    · have e : x = 0 := by
        have := h0 x List.mem_cons_self
        omega
      rw [List.sum_cons, e, Int.zero_add] at h
      obtain ⟨n, hn, hp⟩ := pos_of_sum (fun n hn => h0 n (List.mem_cons_of_mem _ hn)) h
      exact ⟨n, List.mem_cons_of_mem _ hn, hp⟩
/-! ### hold -/
theorem scHold : FnScope ["_law_feed_here", "_law_goods", "_law_most", "_law_hold_here", "_law_good"] ["_law_feed_here", "_law_goods", "_law_most"] (defScope sHold) := ⟨rfl, rfl, rfl, by decide +kernel, rfl, by decide +kernel, by decide +kernel⟩
theorem scLot : FnScope ["_law_feed_here", "_law_goods", "_law_kinds", "_law_most", "_law_kind"] ["_law_feed_here", "_law_goods", "_law_kinds", "_law_most"] (defScope sLot) := ⟨rfl, rfl, rfl, by decide +kernel, rfl, by decide +kernel, by decide +kernel⟩
section
variable {P : Program} {w : World} {K : PySem.W.Frag} {mg : Str → Option Value} {base : Heap}
def spHold : Sp := fun vs H Q _ => ∃ (f c : Addr) (g m : Int), vs = [.ref f, .int g, .int m] ∧ FeedAt c H f ∧ 1 ≤ g ∧ g ≤ 100 ∧ 1 ≤ m ∧ m ≤ 100 ∧
  ∀ H' p ns, Kp f H H' → FeedAt c H' f → H p = none → H' p = some (.tup (ns.map V.int)) → GoodRow g m ns → Q (.ref p) H'
theorem ok_hold {f : Addr} {fd : FuncData} (F : Fun K "_law_hold" "_law_hold" sHold f fd) (B : Bl mg) (CD : Cal P w K mg base CX0 1 "_law_draw" ["_law_feed_here", "_law_many"] spDraw) :
    FnOk P w K mg base CX0 2 f fd ["_law_feed_here", "_law_goods", "_law_most"] spHold := by
  obtain ⟨fD, fdD, GD, gD, kD, bD⟩ := CD.ex
  refine F.ok scHold (fun vs H Q E h => ?_) (fun cdv A outer s H vs Q E hr h => ?_)
  · obtain ⟨a, c, g, m, rfl, _⟩ := h
    rfl
  · obtain ⟨a, c, g, m, rfl, Fd, g1, g2, m1, m2, q⟩ := h
    refine ⟨_, pss_cons (ps_setLc (i := 3) (own := [("_law_good", 4)]) (g := gName 4) (tt := tYes) rfl scHold.nd rfl rfl (sw_true rfl rfl rfl (by decide +kernel)) (pi_range1 (by rfl) B.range (pa_cons (pv 1) pa_nil))
          (blkOk_by (own := [("_law_good", 4)]) (N := ["_law_feed_here", "_law_goods", "_law_most", "_law_hold_here", "_law_good"]) (sc := defScope sHold) (by decide +kernel)) (fun _ _ _ _ _ => pg_name (i := 4) scHold.nd rfl (Or.inl rfl)) (fun _ _ _ _ _ => pts_nil)
          (fun _ _ _ _ _ => pe_ifExp (pt_cmpR op_gt (pe_call GD hr (by rfl) gD kD bD .nil pass0 (pa_cons (pv 0) (pa_cons pe_int pa_nil))) pe_int (nomark _)) (pe_call GD hr (by rfl) gD kD bD .nil pass0 (pa_cons (pv 0) (pa_cons (pe_op op_add (pv 2) pe_int) pa_nil))) pe_int))
      (pss_cut (ps_if (pt_cmpR op_eq (pe_callB (cr_sum rfl) (by rfl) B.sum (by decide +kernel) (pa_cons (pv 3) pa_nil)) pe_int (nomark _))
          (pss_one (ps_asg (pe_op op_add pe_int (pe_call GD hr (by rfl) gD kD bD .nil pass0 (pa_cons (pv 0) (pa_cons (pv 2) pa_nil)))) (pg_sub (pv 3) (pe_call GD hr (by rfl) gD kD bD .nil pass0 (pa_cons (pv 0) (pa_cons (pv 1) pa_nil))) set_list))) pss_nil)
        (pss_one (ps_ret (pe_callTy call_tuple_of (by rfl) B.tuple (by decide +kernel) (pa_cons (pv 3) pa_nil))))), ?_⟩
    refine ⟨.int g, rfl, g, rfl, by omega, by omega, fun D nD => ?_⟩
    have nDf : D ≠ a := Fd.ne nD
    have nDc : D ≠ c := Fd.neC nD
    refine lc_range (lo := 0) (n := g.toNat) (fun i H' => Kp a H H' ∧ FeedAt c H' a ∧ ∃ ns : List Int, H' D = some (.lst (ns.map V.int)) ∧ ns.length = i ∧ ∀ n ∈ ns, 0 ≤ n ∧ n ≤ m)
      ⟨Kp.new nD, Fd.new nD, [], upd_same, rfl, fun n hn => by cases hn⟩ (fun i H' hi ⟨kp, F', ns, hD, hl, hb⟩ => ?_) (fun H' ⟨kp, F', ns, hD, hl, hb⟩ => ?_)
    · refine ⟨rfl, yes (iteT ?_)⟩
      have more : ∀ (H2 : Hp) (d : Int), Kp a H' H2 → FeedAt c H2 a → 0 ≤ d → d ≤ m → ∃ acc, H2 D = some (.lst acc) ∧ acc.length < sizeLine ∧ Kp a H (upd H2 D (.lst (acc ++ [.int d]))) ∧ FeedAt c (upd H2 D (.lst (acc ++ [.int d]))) a ∧
          ∃ ns : List Int, upd H2 D (.lst (acc ++ [.int d])) D = some (.lst (ns.map V.int)) ∧ ns.length = i + 1 ∧ ∀ n ∈ ns, 0 ≤ n ∧ n ≤ m := fun H2 d k2 F2 d0 d1 => by
        have hD2 := k2 _ _ nDf hD
        refine ⟨_, hD2, ?_, ?_, ?_, ns ++ [d], ?_, ?_, ?_⟩
        · rw [List.length_map]
          exact small1000 (by omega)
        · exact (kp.trans k2).late nD
        · exact F2.put nDf nDc
        · rw [upd_same, List.map_append]
          rfl
        · rw [List.length_append, hl]
          rfl
        · intro n hn
          rcases List.mem_append.mp hn with h | h
          · exact hb n h
          · rw [List.mem_singleton.mp h]
            exact ⟨d0, d1⟩
      refine ⟨.ref a, rfl, a, c, 3, rfl, by decide, by decide, F', fun d1 H1 _ _ k1 F1 => ?_⟩
      refine ⟨d1, 0, rfl, rfl, _, rfl, ite2 (fun _ => ?_) (fun _ => ?_)⟩
      · refine ⟨.ref a, rfl, .int m, rfl, m, 1, rfl, rfl, a, c, m + 1, rfl, by omega, by omega, F1, fun d2 H2 e0 e1 k2 F2 => ?_⟩
        exact more H2 d2 (k1.trans k2) F2 e0 (by omega)
      · exact more H1 0 k1 F1 (by decide) (by omega)
    · -- behind the comprehension
      refine ⟨fun σ' H2 => ∃ ns : List Int, σ' = [some (.ref a), some (.int g), some (.int m), some (.ref D), none] ∧ Kp a H H2 ∧ FeedAt c H2 a ∧ H2 D = some (.lst (ns.map V.int)) ∧ GoodRow g m ns, ?_, ?_⟩
      · refine ⟨.ref D, rfl, D, ns, rfl, SqL.of hD, rfl, _, rfl, ite2 (fun cs => ?_) (fun cs => ?_)⟩
        · refine ⟨.ref a, rfl, .int m, rfl, a, c, m, rfl, by omega, by omega, F', fun d1 H1 e0 e1 k1 F1 => ?_⟩
          refine ⟨1, d1, rfl, rfl, .ref D, rfl, .ref a, rfl, .int g, rfl, a, c, g, rfl, by omega, by omega, F1, fun d2 H2 c0 c1 k2 F2 => ?_⟩
          have hD2 : H2 D = some (.lst (ns.map V.int)) := k2 _ _ nDf (k1 _ _ nDf hD)
          have hj : ixN (ns.map V.int).length d2 = some d2.toNat := by
            unfold ixN
            rw [if_pos c0, if_pos (by rw [List.length_map]; omega)]
          refine ⟨D, _, d2, d2.toNat, rfl, rfl, hD2, hj, ns.set d2.toNat (1 + d1), rfl, ?_, ?_, ?_, ?_, ?_, ?_⟩
          · exact (kp.trans (k1.trans k2)).late nD
          · exact F2.put nDf nDc
          · rw [upd_same, List.map_set]
          · rw [List.length_set]
            exact hl
          · intro n hn
            rcases List.mem_or_eq_of_mem_set hn with h | h
            · exact hb n h
            · rw [h]
              omega
          · exact ⟨1 + d1, List.mem_iff_getElem.mpr ⟨d2.toNat, by rw [List.length_set]; omega, by simp⟩, by omega⟩
        · have hs : ns.sum ≠ 0 := fun z => cs (decide_eq_true (by rw [z]))
          exact ⟨ns, rfl, kp, F', hD, hl, hb, pos_of_sum (fun n hn => (hb n hn).1) hs⟩
      · rintro σ' H2 ⟨ms, rfl, k2, F2, hD2, G2⟩
        refine ⟨.ref D, rfl, D, _, rfl, .inl ⟨SqL.of hD2, fun p np => ?_⟩⟩
        exact q _ p ms (k2.trans (Kp.new np)) (F2.new np) (k2.free (F2.ne np) np) upd_same G2
end
end HL

namespace HL
open PySem PySem.Spec PyProof.Rows L2
open C8 (pss_cut)
section
variable {P : Program} {w : World} {K : PySem.W.Frag} {mg : Str → Option Value} {base : Heap}
/-! ### lots -/
/-- a lot as it should be -/
def GoodLot (g m : Int) (n : Nat) (ll : List (List Int)) : Prop := 1 ≤ ll.length ∧ ll.length ≤ n ∧ ∀ r ∈ ll, GoodRow g m r
def spLot : Sp := fun vs H Q _ => ∃ (f c : Addr) (g kk m : Int), vs = [.ref f, .int g, .int kk, .int m] ∧ FeedAt c H f ∧ 1 ≤ g ∧ g ≤ 100 ∧ 1 ≤ kk ∧ kk ≤ 100 ∧ 1 ≤ m ∧ m ≤ 100 ∧
  ∀ H' p ll, Kp f H H' → FeedAt c H' f → H p = none → LotAt H' p ll → GoodLot g m kk.toNat ll → Q (.ref p) H'
theorem ok_lot {f : Addr} {fd : FuncData} (F : Fun K "_law_lot" "_law_lot" sLot f fd) (B : Bl mg) (CD : Cal P w K mg base CX0 1 "_law_draw" ["_law_feed_here", "_law_many"] spDraw)
    (CH : Cal P w K mg base CX0 2 "_law_hold" ["_law_feed_here", "_law_goods", "_law_most"] spHold) : FnOk P w K mg base CX0 3 f fd ["_law_feed_here", "_law_goods", "_law_kinds", "_law_most"] spLot := by
  obtain ⟨fD, fdD, GD, gD, kD, bD⟩ := CD.ex
  obtain ⟨fH, fdH, GH, gH, kH, bH⟩ := CH.ex
  refine F.ok scLot (fun vs H Q E h => ?_) (fun cdv A outer s H vs Q E hr h => ?_)
  · obtain ⟨a, c, g, kk, m, rfl, _⟩ := h
    rfl
  · obtain ⟨a, c, g, kk, m, rfl, Fd, g1, g2, n1, n2, m1, m2, q⟩ := h
    refine ⟨_, pss_one (ps_ret (pe_callTy call_tuple_of (by rfl) B.tuple (by decide +kernel) (pa_cons
      (pe_lc (own := [("_law_kind", 4)]) (g := gName 4) (tt := tYes) rfl scLot.nd (pi_range1 (by rfl) B.range (pa_cons (pe_op op_add pe_int (pe_call GD (hr.mono (by decide)) (by rfl) gD kD bD .nil pass0 (pa_cons (pv 0) (pa_cons (pv 2) pa_nil)))) pa_nil))
        (blkOk_by (own := [("_law_kind", 4)]) (N := ["_law_feed_here", "_law_goods", "_law_kinds", "_law_most", "_law_kind"]) (sc := defScope sLot) (by decide +kernel)) (fun _ _ _ _ _ => pg_name (i := 4) scLot.nd rfl (Or.inl rfl)) (fun _ _ _ _ _ => pts_nil)
        (fun _ _ _ _ _ => pe_call GH hr (by rfl) gH kH bH .nil pass0 (pa_cons (pv 0) (pa_cons (pv 1) (pa_cons (pv 3) pa_nil))))) pa_nil))), ?_⟩
    refine ⟨.ref a, rfl, .int kk, rfl, a, c, kk, rfl, by omega, by omega, Fd, fun d H1 d0 d1 k1 F1 => ?_⟩
    refine ⟨1, d, rfl, rfl, 1 + d, rfl, by omega, by omega, fun D nD => ?_⟩
    have nDf : D ≠ a := F1.ne nD
    have nDc : D ≠ c := F1.neC nD
    have nD0 : H D = none := k1.free nDf nD
    refine lc_range (lo := 0) (n := (1 + d).toNat) (fun i H' => Kp a H H' ∧ FeedAt c H' a ∧ ∃ (as : List Addr) (ll : List (List Int)), H' D = some (.lst (as.map V.ref)) ∧ Rows H' as ll ∧ ll.length = i ∧ ∀ r ∈ ll, GoodRow g m r)
      ⟨k1.late nD0, F1.new nD, [], [], upd_same, True.intro, rfl, fun n hn => by cases hn⟩ (fun i H' hi ⟨kp, F', as, ll, hD, hR, hl, hb⟩ => ?_) (fun H' ⟨kp, F', as, ll, hD, hR, hl, hb⟩ => ?_)
    · refine ⟨rfl, yes (iteT ?_)⟩
      refine ⟨.ref a, rfl, .int g, rfl, .int m, rfl, a, c, g, m, rfl, F', g1, g2, m1, m2, fun H2 p ns k2 F2 np hp gr => ?_⟩
      have hD2 := k2 _ _ nDf hD
      have nt : ∀ b xs, H2 b = some (.tup xs) → upd H2 D (.lst (as.map V.ref ++ [.ref p])) b = some (.tup xs) := fun b xs e => by
        rw [upd_ne (ne_of e hD2 (fun z => by cases z))]
        exact e
      refine ⟨_, hD2, ?_, (kp.trans k2).late nD0, F2.put nDf nDc, as ++ [p], ll ++ [ns], ?_, ?_, ?_, ?_⟩
      · rw [List.length_map, hR.len]
        exact small1000 (by omega)
      · rw [upd_same, List.map_append]
        rfl
      · exact ((hR.kp F' k2).mono nt).app ⟨nt _ _ hp, True.intro⟩
      · rw [List.length_append, hl]
        rfl
      · intro r hr
        rcases List.mem_append.mp hr with h | h
        · exact hb r h
        · rw [List.mem_singleton.mp h]
          exact gr
    · refine ⟨D, _, rfl, .inl ⟨SqL.of hD, fun p np => ?_⟩⟩
      exact q _ p ll (kp.trans (Kp.new np)) (F'.new np) (kp.free (F'.ne np) np) ⟨as, upd_same, hR.same (same_new np)⟩ ⟨by omega, by omega, hb⟩
theorem rep_one (v : V) : ∀ n : Nat, (List.replicate n [v]).flatten = List.replicate n v
  | 0 => rfl
  | n + 1 => by
    rw [List.replicate_succ, List.flatten_cons, rep_one v n, List.replicate_succ]
    rfl
end
end HL

namespace HL
open PySem PySem.Spec PyProof.Rows L2
open C8 (pss_cut)
/-! ### what a lot must be -/
def okRow (g : Nat) (r : List Int) : Bool := decide (r.length = g) && (r.all (fun n => decide (0 ≤ n ∧ n ≤ 6)) && r.any (fun n => decide (0 < n)))
def flawIn (g : Nat) (ll : List (List Int)) : Option Int := (ll.findIdx? fun r => !okRow g r).map fun i => (i : Int)
def width (ll : List (List Int)) : Nat := (ll.headD []).length
def flaw (ll : List (List Int)) : Option Int := if 1 ≤ ll.length ∧ ll.length ≤ 5 ∧ 1 ≤ width ll ∧ width ll ≤ 3 then flawIn (width ll) ll else some (-1)
def flawV (ll : List (List Int)) : V := match flaw ll with
  | none => .non
  | some k => .int k
theorem flawIn_at {g : Nat} {ll : List (List Int)} {i : Nat} {r : List Int} (h : ll[i]? = some r) (hb : okRow g r = false) (ha : ∀ (j : Nat) (r' : List Int), j < i → ll[j]? = some r' → okRow g r' = true) : flawIn g ll = some (i : Int) := by
  unfold flawIn
  obtain ⟨hi, he⟩ := List.getElem?_eq_some_iff.mp h
  have e : ll.findIdx? (fun r => !okRow g r) = some i := by
    refine List.findIdx?_eq_some_iff_getElem.mpr ⟨hi, by rw [he, hb]; rfl, fun j hj => ?_⟩
    rw [ha j ll[j] hj (List.getElem?_eq_getElem (by omega))]
    decide
  rw [e]
  rfl
theorem flawIn_none {g : Nat} {ll : List (List Int)} (ha : ∀ (j : Nat) (r' : List Int), j < ll.length → ll[j]? = some r' → okRow g r' = true) : flawIn g ll = none := by
  unfold flawIn
  have e : ll.findIdx? (fun r => !okRow g r) = none := by
    refine List.findIdx?_eq_none_iff.mpr fun r hr => ?_
    obtain ⟨j, hj, hjr⟩ := List.mem_iff_getElem.mp hr
    rw [ha j r hj (by rw [List.getElem?_eq_getElem hj, hjr])]
    rfl
  rw [e]
  rfl
theorem all_in {r : List Int} : (r.all (fun n => decide (0 ≤ n ∧ n ≤ 6))) = true ↔ ∀ n ∈ r, 0 ≤ n ∧ n ≤ 6 := by
  rw [List.all_eq_true]
  exact ⟨fun h n hn => of_decide_eq_true (h n hn), fun h n hn => decide_eq_true (h n hn)⟩
theorem any_pos {r : List Int} : (r.any (fun n => decide (0 < n))) = true ↔ ∃ n ∈ r, 0 < n := by
  rw [List.any_eq_true]
  exact ⟨fun ⟨n, hn, h⟩ => ⟨n, hn, of_decide_eq_true h⟩, fun ⟨n, hn, h⟩ => ⟨n, hn, decide_eq_true h⟩⟩
theorem okRow_iff {g : Nat} {r : List Int} : okRow g r = true ↔ r.length = g ∧ (∀ n ∈ r, 0 ≤ n ∧ n ≤ 6) ∧ ∃ n ∈ r, 0 < n := by
  unfold okRow
  rw [Bool.and_eq_true, Bool.and_eq_true, decide_eq_true_iff, all_in, any_pos]
theorem sum_pos {r : List Int} (h0 : ∀ n ∈ r, 0 ≤ n) (h : ∃ n ∈ r, 0 < n) : 0 < r.sum := by
  induction r with
  | nil => obtain ⟨n, hn, _⟩ := h; cases hn
  | cons x r ih =>
    rw [List.sum_cons]
    have x0 := h0 x List.mem_cons_self
    have rest : 0 ≤ r.sum := by
      clear ih h
      induction r with
      | nil => exact Int.le_refl _
      | cons y r ih2 =>
        rw [List.sum_cons]
        have := h0 y (List.mem_cons_of_mem _ List.mem_cons_self)
        have := ih2 fun n hn => h0 n (by
          rcases List.mem_cons.mp hn with h | h
          · rw [h]; exact List.mem_cons_self
          · exact List.mem_cons_of_mem _ (List.mem_cons_of_mem _ h))
        omega
    obtain ⟨n, hn, hp⟩ := h
    rcases List.mem_cons.mp hn with h | h
    · omega
    · have := ih (fun n hn => h0 n (List.mem_cons_of_mem _ hn)) ⟨n, h, hp⟩
      omega
/-- 1 <= x <= 5 as a test -/
theorem chainI {i j L : Int} {H : Hp} {Q : Bool → Hp → Prop} (h : Q (decide (i ≤ L ∧ L ≤ j)) H) :
    if decide (i ≤ L) = true then (∃ a b : Int, V.int L = V.int a ∧ V.int j = V.int b ∧ ∃ k, V.bl (decide (a ≤ b)) = V.bl k ∧ Q k H) else ∃ k, V.bl false = V.bl k ∧ Q k H := by
  by_cases c : i ≤ L
  · rw [if_pos (decide_eq_true c)]
    refine ⟨L, j, rfl, rfl, _, rfl, ?_⟩
    rw [show decide (L ≤ j) = decide (i ≤ L ∧ L ≤ j) by simp [c]]
    exact h
  · rw [if_neg (fun z => c (of_decide_eq_true z))]
    refine ⟨false, rfl, ?_⟩
    rw [show false = decide (i ≤ L ∧ L ≤ j) by simp [c]]
    exact h
theorem Rows.head {H : Hp} {as : List Addr} {ll : List (List Int)} (h : Rows H as ll) (hl : 1 ≤ ll.length) : ∃ a, as[0]? = some a ∧ H a = some (.tup ((ll.headD []).map V.int)) ∧ (ll.headD []).length = width ll := by
  cases as with
  | nil =>
    cases ll with
    | nil => simp at hl
    | cons r rs => exact h.elim
  | cons a as =>
    cases ll with
    | nil => simp at hl
    | cons r rs => exact ⟨a, rfl, h.1, rfl⟩
end HL

namespace HL
open PySem PySem.Spec PyProof.Rows L2
open C8 (pss_cut)
open RZ (pi_zipA ItzT iZipA)
theorem scIH : FnScope ["hold", "goods", "amount"] ["hold", "goods"] (defScope sIsHold) := ⟨rfl, rfl, rfl, by decide +kernel, rfl, by decide +kernel, by decide +kernel⟩
theorem scLk : FnScope ["lot", "kind", "hold"] ["lot"] (defScope sLook) := ⟨rfl, rfl, rfl, by decide +kernel, rfl, by decide +kernel, by decide +kernel⟩
theorem scGo : FnScope ["lot"] ["lot"] (defScope sGoods) := ⟨rfl, rfl, rfl, by decide +kernel, rfl, by decide +kernel, by decide +kernel⟩
/-- 0 <= x <= 6 as a value -/
theorem chainV {i j L : Int} {H : Hp} {σ : L2.St} {Q : VK} (h : Q (.bl (decide (i ≤ L ∧ L ≤ j))) H) :
    if decide (i ≤ L) = true then tC (.int j) σ H (fun v H4 => rI0 (fun i j => V.bl (decide (i ≤ j))) (.int L) v H4 Q) else Q (.bl false) H := by
  by_cases c : i ≤ L
  · rw [if_pos (decide_eq_true c)]
    refine ⟨L, j, rfl, rfl, ?_⟩
    show Q (.bl (decide (L ≤ j))) H
    rw [show decide (L ≤ j) = decide (i ≤ L ∧ L ≤ j) by simp [c]]
    exact h
  · rw [if_neg (fun z => c (of_decide_eq_true z))]
    rw [show false = decide (i ≤ L ∧ L ≤ j) by simp [c]]
    exact h
section
variable {P : Program} {w : World} {K : PySem.W.Frag} {mg : Str → Option Value} {base : Heap}
def spIsHold : Sp := fun vs H Q _ => ∃ (a : Addr) (g : Nat) (r : List Int), vs = [.ref a, .int (g : Int)] ∧ H a = some (.tup (r.map V.int)) ∧ r.length ≤ 1000 ∧ 1 ≤ g ∧ ∀ H', Same H H' → Q (.bl (okRow g r)) H'
structure Consts (mg : Str → Option Value) : Prop where
  hold : ∃ t, mg "MOST_HOLD" = some (.int 6 t)
  kinds : ∃ t, mg "MOST_KINDS" = some (.int 5 t)
  goods : ∃ t, mg "MOST_GOODS" = some (.int 3 t)
theorem ok_isHold {f : Addr} {fd : FuncData} {k : Nat} (F : Fun K "is_hold" "is_hold" sIsHold f fd) (B : Bl mg) (M : Consts mg) : FnOk P w K mg base CX0 (k + 1) f fd ["hold", "goods"] spIsHold := by
  obtain ⟨t6, m6⟩ := M.hold
  refine F.ok scIH (fun vs H Q E h => ?_) (fun cdv A outer s H vs Q E hr h => ?_)
  · obtain ⟨a, g, r, rfl, _⟩ := h
    rfl
  · obtain ⟨a, g, r, rfl, ha, hz, g1, q⟩ := h
    refine ⟨_, pss_one (ps_ret (pe_and (pe_cmpR op_eq (pe_callB call_len_seq (by rfl) B.len PySem.boot_len (pa_cons (pv 0) pa_nil)) (pv 1) (nomark _))
      (pe_and (pe_callB (cr_all rfl) (by rfl) B.all (by decide +kernel) (pa_cons (pe_lc (own := [("amount", 2)]) (g := gName 2) (tt := tYes) rfl scIH.nd (pi_tup (pv 0))
          (blkOk_by (own := [("amount", 2)]) (N := ["hold", "goods", "amount"]) (sc := defScope sIsHold) (by decide +kernel)) (fun _ _ _ _ _ => pg_name (i := 2) scIH.nd rfl (Or.inl rfl)) (fun _ _ _ _ _ => pts_nil)
          (fun _ _ _ _ _ => pe_chain op_le op_le pe_int (pv 2) (pe_glob (v := .int 6) rfl m6 ⟨_, rfl⟩))) pa_nil))
        (pe_one (pe_cmpR op_gt (pe_callB (cr_maxT rfl hr.units) (by rfl) B.max (by decide +kernel) (pa_cons (pv 0) pa_nil)) pe_int (nomark _)))))), ?_⟩
    have sA : SqT K H a (r.map V.int) := SqT.of ha
    refine ⟨.ref a, rfl, a, _, rfl, .inr sA, .int (g : Int), rfl, rfl, _, rfl, ?_⟩
    rw [List.length_map]
    refine ite2 (fun c1 => ?_) (fun c1 => ?_)
    · have hl : r.length = g := by
        have := V.int.inj (of_decide_eq_true c1)
        omega
      refine ⟨.ref a, rfl, a, rfl, ⟨_, sA⟩, fun D nD => ?_⟩
      refine lc_tup (K := K) (a := a) (xs := r.map V.int) (fun i H' => Same H H' ∧ H' D = some (.lst (((r.take i).map fun n => decide (0 ≤ n ∧ n ≤ 6)).map V.bl))) ⟨same_new nD, upd_same⟩ (fun i H' _ ⟨sm, _⟩ => SqT.of (sm _ _ ha)) (fun i x H' hx ⟨sm, hD⟩ => ?_) (fun H' ⟨sm, hD⟩ => ?_)
      · obtain ⟨n, hn, rfl⟩ : ∃ n, r[i]? = some n ∧ x = V.int n := by
          rw [List.getElem?_map] at hx
          cases e : r[i]? with
          | none => rw [e] at hx; cases hx
          | some n => rw [e] at hx; exact ⟨n, rfl, (Option.some.inj hx).symm⟩
        refine ⟨rfl, yes (iteT ?_)⟩
        refine ⟨.int n, rfl, 0, n, rfl, rfl, _, rfl, chainV ?_⟩
        refine ⟨_, hD, ?_, same_late sm nD, ?_⟩
        · rw [List.length_map, List.length_map]
          exact small1000 (Nat.le_trans (List.length_take_le' _ _) hz)
        · rw [upd_same, List.take_add_one, hn, List.map_append, List.map_append]
          rfl
      · rw [List.length_map, List.take_length] at hD
        refine ⟨D, _, rfl, SqL.of hD, _, rfl, ?_⟩
        have eall : ((r.map fun n => decide (0 ≤ n ∧ n ≤ 6)).all id) = r.all (fun n => decide (0 ≤ n ∧ n ≤ 6)) := by
          rw [List.all_map]
          rfl
        rw [eall]
        refine ite2 (fun c2 => ?_) (fun c2 => ?_)
        · refine ⟨.ref a, rfl, a, r, rfl, SqT.of (sm _ _ ha), by omega, fun mx hmx hmax => ?_⟩
          refine ⟨mx, 0, rfl, rfl, ?_⟩
          have e : decide ((0 : Int) < mx) = okRow g r := by
            unfold okRow
            rw [decide_eq_true hl, c2, Bool.true_and, Bool.true_and]
            by_cases z : 0 < mx
            · rw [decide_eq_true z, any_pos.mpr ⟨mx, hmx, z⟩]
            · rw [decide_eq_false z]
              cases y : r.any (fun n => decide (0 < n)) with
              | false => rfl
              | true =>
                obtain ⟨n, hn, h0⟩ := any_pos.mp y
                have := hmax n hn
                omega
          have q1 := q H' sm
          rw [← e] at q1
          exact q1
        · have e : okRow g r = false := by
            unfold okRow
            rw [Bool.eq_false_iff.mpr c2, Bool.false_and, Bool.and_false]
          have q1 := q H' sm
          rw [e] at q1
          exact q1
    · have e : okRow g r = false := by
        unfold okRow
        rw [decide_eq_false (fun z => c1 (decide_eq_true (by rw [z]))), Bool.false_and]
      have q1 := q H (Same.refl _)
      rw [e] at q1
      exact q1
end
theorem flaw_ok {ll : List (List Int)} (h : flaw ll = none) : 1 ≤ ll.length ∧ ll.length ≤ 5 ∧ 1 ≤ width ll ∧ width ll ≤ 3 := by
  unfold flaw at h
  by_cases c : 1 ≤ ll.length ∧ ll.length ≤ 5 ∧ 1 ≤ width ll ∧ width ll ≤ 3
  · exact c
  · rw [if_neg c] at h
    cases h
theorem flaw_rows {ll : List (List Int)} (h : flaw ll = none) : ∀ r ∈ ll, r.length = width ll ∧ ∀ n ∈ r, 0 ≤ n ∧ n ≤ 6 := by
  have h0 := flaw_ok h
  unfold flaw at h
  rw [if_pos ⟨h0.1, h0.2.1, h0.2.2.1, h0.2.2.2⟩] at h
  unfold flawIn at h
  have e : ll.findIdx? (fun r => !okRow (width ll) r) = none := by
    cases z : ll.findIdx? (fun r => !okRow (width ll) r) with
    | none => rfl
    | some i => rw [z] at h; cases h
  intro r hr
  have := List.findIdx?_eq_none_iff.mp e r hr
  have b : okRow (width ll) r = true := by
    cases z : okRow (width ll) r with
    | true => rfl
    | false => rw [z] at this; cases this
  obtain ⟨o1, o2, _⟩ := okRow_iff.mp b
  exact ⟨o1, o2⟩
theorem nilA {σ : L2.St} {H : Hp} {Q : List V → Hp → Prop} (h : Q [] H) : tNil σ H Q := h
/-- i <= x <= e, e any expression -/
theorem chainE {i j L : Int} {te : TE} {σ : L2.St} {H : Hp} {Q : Bool → Hp → Prop} (hte : ∀ Q' : VK, Q' (.int j) H → te σ H Q') (h : Q (decide (i ≤ L ∧ L ≤ j)) H) :
    if decide (i ≤ L) = true then te σ H (fun v H4 => rI0 (fun i j => V.bl (decide (i ≤ j))) (.int L) v H4 (fun x H' => ∃ k, x = .bl k ∧ Q k H')) else ∃ k, V.bl false = V.bl k ∧ Q k H := by
  by_cases c : i ≤ L
  · rw [if_pos (decide_eq_true c)]
    refine hte _ ⟨L, j, rfl, rfl, _, rfl, ?_⟩
    rw [show decide (L ≤ j) = decide (i ≤ L ∧ L ≤ j) by simp [c]]
    exact h
  · rw [if_neg (fun z => c (of_decide_eq_true z))]
    refine ⟨false, rfl, ?_⟩
    rw [show false = decide (i ≤ L ∧ L ≤ j) by simp [c]]
    exact h
/-- i <= x < e -/
theorem chainF {i j L : Int} {te : TE} {σ : L2.St} {H : Hp} {Q : Bool → Hp → Prop} (hte : ∀ Q' : VK, Q' (.int j) H → te σ H Q') (h : Q (decide (i ≤ L ∧ L < j)) H) :
    if decide (i ≤ L) = true then te σ H (fun v H4 => rI0 (fun i j => V.bl (decide (i < j))) (.int L) v H4 (fun x H' => ∃ k, x = .bl k ∧ Q k H')) else ∃ k, V.bl false = V.bl k ∧ Q k H := by
  by_cases c : i ≤ L
  · rw [if_pos (decide_eq_true c)]
    refine hte _ ⟨L, j, rfl, rfl, _, rfl, ?_⟩
    rw [show decide (L < j) = decide (i ≤ L ∧ L < j) by simp [c]]
    exact h
  · rw [if_neg (fun z => c (of_decide_eq_true z))]
    refine ⟨false, rfl, ?_⟩
    rw [show false = decide (i ≤ L ∧ L < j) by simp [c]]
    exact h
end HL

namespace HL
open PySem PySem.Spec PyProof.Rows L2
open C8 (pss_cut)
/-! ### tuples cut and joined -/
theorem sz1000 {n : Nat} (h : n ≤ 1000) : n ≤ sizeLine := Nat.le_of_lt (small1000 h)
theorem cat_read {K : PySem.W.Frag} {H : Hp} {a b : Addr} {xs ys : List V} {Q : VK} (ha : H a = some (.tup xs)) (hb : H b = some (.tup ys)) (hz : xs.length + ys.length ≤ 1000)
    (q : ∀ p H', Same H H' → H' p = some (.tup (xs ++ ys)) → Q (.ref p) H') : rCatA K (.ref a) (.ref b) H Q := by
  refine ⟨a, b, xs, ys, rfl, rfl, SqT.of ha, SqT.of hb, sz1000 hz, fun e => ?_, fun _ e => ?_, fun _ _ p np => q p _ (same_new np) upd_same⟩
  · subst e
    exact q b H (Same.refl _) hb
  · subst e
    exact q a H (Same.refl _) (by rw [List.append_nil]; exact ha)
theorem slice_read {K : PySem.W.Frag} {H : Hp} {a : Addr} {xs : List V} {lo hi : Option Int} {Q : VK} (ha : H a = some (.tup xs)) (q : ∀ p H', Same H H' → H' p = some (.tup (cutV xs lo hi)) → Q (.ref p) H') : rSlA K (.ref a) lo hi H Q := by
  refine ⟨a, xs, rfl, SqT.of ha, fun e => ?_, fun _ p np => q p _ (same_new np) upd_same⟩
  refine q a H (Same.refl _) ?_
  unfold cutV
  rw [e.1, e.2, List.drop_zero, Nat.sub_zero, List.take_length]
  exact ha
theorem cut_ex (L : Nat) (lo hi : Option Int) : ∃ n m : Nat, ∀ {α : Type} (f : α → V) (l : List α), l.length = L → cutV (l.map f) lo hi = ((l.drop n).take m).map f :=
  ⟨HT.sIx L 0 lo, HT.sIx L L hi - HT.sIx L 0 lo, fun f l h => by
    unfold cutV
    rw [List.length_map, h, List.map_take, List.map_drop]⟩
/-- a tuple of ints, a tuple of rows -/
def IntsAt (H : Hp) (p : Addr) (ns : List Int) : Prop := H p = some (.tup (ns.map V.int))
def RowsAt (H : Hp) (p : Addr) (as : List Addr) (ll : List (List Int)) : Prop := H p = some (.tup (as.map V.ref)) ∧ Rows H as ll
theorem IntsAt.same {H H' : Hp} {p : Addr} {ns : List Int} (h : IntsAt H p ns) (s : Same H H') : IntsAt H' p ns := s _ _ h
theorem RowsAt.same {H H' : Hp} {p : Addr} {as : List Addr} {ll : List (List Int)} (h : RowsAt H p as ll) (s : Same H H') : RowsAt H' p as ll := ⟨s _ _ h.1, h.2.same s⟩
theorem RowsAt.kp {H H' : Hp} {f c p : Addr} {as : List Addr} {ll : List (List Int)} (h : RowsAt H p as ll) (F : FeedAt c H f) (k : Kp f H H') : RowsAt H' p as ll := ⟨k _ _ (F.tup h.1) h.1, h.2.kp F k⟩
theorem RowsAt.lot {H : Hp} {p : Addr} {as : List Addr} {ll : List (List Int)} (h : RowsAt H p as ll) : LotAt H p ll := ⟨as, h.1, h.2⟩
theorem IntsAt.kp {H H' : Hp} {f c p : Addr} {ns : List Int} (h : IntsAt H p ns) (F : FeedAt c H f) (k : Kp f H H') : IntsAt H' p ns := k _ _ (F.tup h) h
theorem cat_ints {K : PySem.W.Frag} {H : Hp} {a b : Addr} {xs ys : List Int} {Q : VK} (ha : IntsAt H a xs) (hb : IntsAt H b ys) (hz : xs.length + ys.length ≤ 1000)
    (q : ∀ p H', Same H H' → IntsAt H' p (xs ++ ys) → Q (.ref p) H') : rCatA K (.ref a) (.ref b) H Q :=
  cat_read ha hb (by rw [List.length_map, List.length_map]; exact hz) fun p H' s h => q p H' s (by unfold IntsAt; rw [List.map_append]; exact h)
theorem cat_rows {K : PySem.W.Frag} {H : Hp} {a b : Addr} {as bs : List Addr} {ll mm : List (List Int)} {Q : VK} (ha : RowsAt H a as ll) (hb : RowsAt H b bs mm) (hz : ll.length + mm.length ≤ 1000)
    (q : ∀ p H', Same H H' → RowsAt H' p (as ++ bs) (ll ++ mm) → Q (.ref p) H') : rCatA K (.ref a) (.ref b) H Q :=
  cat_read ha.1 hb.1 (by rw [List.length_map, List.length_map, ha.2.len, hb.2.len]; exact hz) fun p H' s h => q p H' s ⟨by rw [List.map_append]; exact h, (ha.2.same s).app (hb.2.same s)⟩
theorem slice_ints {K : PySem.W.Frag} {H : Hp} {a : Addr} {xs : List Int} {lo hi : Option Int} {Q : VK} (ha : IntsAt H a xs) (q : ∀ p H' n m, Same H H' → IntsAt H' p ((xs.drop n).take m) → Q (.ref p) H') : rSlA K (.ref a) lo hi H Q := by
  obtain ⟨n, m, e⟩ := cut_ex xs.length lo hi
  exact slice_read ha fun p H' s h => q p H' n m s (by unfold IntsAt; rw [← e V.int xs rfl]; exact h)
theorem slice_rows {K : PySem.W.Frag} {H : Hp} {a : Addr} {as : List Addr} {ll : List (List Int)} {lo hi : Option Int} {Q : VK} (ha : RowsAt H a as ll)
    (q : ∀ p H' n m, Same H H' → RowsAt H' p ((as.drop n).take m) ((ll.drop n).take m) → Q (.ref p) H') : rSlA K (.ref a) lo hi H Q := by
  obtain ⟨n, m, e⟩ := cut_ex as.length lo hi
  exact slice_read ha.1 fun p H' s h => q p H' n m s ⟨by rw [← e V.ref as rfl]; exact h, ((ha.2.same s).drop n).take m⟩
theorem len_cut {α : Type} (l : List α) (n m : Nat) : ((l.drop n).take m).length ≤ l.length := by
  rw [List.length_take, List.length_drop]
  omega
theorem mem_cut {α : Type} {l : List α} {n m : Nat} {x : α} (h : x ∈ (l.drop n).take m) : x ∈ l := List.mem_of_mem_drop (List.mem_of_mem_take h)
theorem one_row {H : Hp} {t r : Addr} {row : List Int} (h : IntsAt H r row) (nt : H t = none) : RowsAt (upd H t (.tup [.ref r])) t [r] [row] := ⟨upd_same, ⟨(same_new nt) _ _ h, True.intro⟩⟩
theorem sz_1 (v : V) : [v].length ≤ sizeLine := by
  show 1 ≤ sizeLine
  decide
theorem noPart {σ : L2.St} {H : Hp} {Q : Option Int → Hp → Prop} (h : Q none H) : tNoPart σ H Q := h
end HL

set_option pp.maxSteps 3000
namespace HL
open PySem PySem.Spec PyProof.Rows L2
open C8 (pss_cut)
open LamX (CodeO Tabs TabS TabB ExtN tLam LamS lamS_by lamCx lamEnv codeO_ne)
abbrev G30 : Int := 1000000000000000000000000000000
abbrev sBadInit : Stmt := inClass (topS 2) 0
abbrev sBillInit : Stmt := inClass (topS 3) 0
abbrev sOtherInit : Stmt := inClass (topS 4) 0
/-- what is known of a refusal's class whose __init__ stores a word and a field -/
structure Cls2 (K : PySem.W.Frag) (C : Addr) (f : Str) : Prop where
  ox : OexC K C
  noW : PySem.W.findIn K (.ref C) "word" = some none
  noF : PySem.W.findIn K (.ref C) f = some none
abbrev exF (f wd : Str) (v : V) : List (Str × V) := [(f, v), ("word", .str wd)]
def spInit2 (C : Addr) (f wd : Str) : Sp := fun vs H Q _ => ∃ (a : Addr) (v : V), vs = [.ref a, v] ∧ H a = some (exo a C none) ∧
  ∀ dx, H dx = none → dx ≠ a → Q .non (upd (upd (upd H dx (exd dx [("word", .str wd)])) a (exo a C (some dx))) dx (exd dx (exF f wd v)))
theorem scBd : FnScope ["self", "kind"] ["self", "kind"] (defScope sBadInit) := ⟨rfl, rfl, rfl, by decide +kernel, rfl, by decide +kernel, by decide +kernel⟩
theorem scBI : FnScope ["self", "good"] ["self", "good"] (defScope sBillInit) := ⟨rfl, rfl, rfl, by decide +kernel, rfl, by decide +kernel, by decide +kernel⟩
theorem scOI : FnScope ["self"] ["self"] (defScope sOtherInit) := ⟨rfl, rfl, rfl, by decide +kernel, rfl, by decide +kernel, by decide +kernel⟩
section
variable {P : Program} {w : World} {K : PySem.W.Frag} {mg : Str → Option Value} {base : Heap}
theorem ok_badInit {f : Addr} {fd : FuncData} {k : Nat} {C : Addr} (F : Fun K "__init__" "BadLot.__init__" sBadInit f fd) (T : Cls2 K C "kind") : FnOk P w K mg base CX0 (k + 1) f fd ["self", "kind"] (spInit2 C "kind" "bad lot") := by
  refine F.ok scBd (fun vs H Q E h => ?_) (fun cdv A outer s H vs Q E hr h => ?_)
  · obtain ⟨a, v, rfl, _⟩ := h
    rfl
  · obtain ⟨a, v, rfl, ha, q⟩ := h
    refine ⟨_, pss_cons (ps_ost (pv 0) pe_str) (pss_one (ps_ost (pv 0) (pv 1))), ?_⟩
    refine ⟨.ref a, rfl, a, C, rfl, T.ox, T.noW, .inl ⟨ha, fun dx nd ne => ?_⟩⟩
    refine ⟨v, rfl, .ref a, rfl, a, C, rfl, T.ox, T.noF, .inr ⟨dx, _, upd_same, ?_, (by show 1 ≤ 900; decide), q dx nd ne⟩⟩
    rw [upd_ne ne, upd_same]
theorem ok_billInit {f : Addr} {fd : FuncData} {k : Nat} {C : Addr} (F : Fun K "__init__" "BadBill.__init__" sBillInit f fd) (T : Cls2 K C "good") : FnOk P w K mg base CX0 (k + 1) f fd ["self", "good"] (spInit2 C "good" "bad bill") := by
  refine F.ok scBI (fun vs H Q E h => ?_) (fun cdv A outer s H vs Q E hr h => ?_)
  · obtain ⟨a, v, rfl, _⟩ := h
    rfl
  · obtain ⟨a, v, rfl, ha, q⟩ := h
    refine ⟨_, pss_cons (ps_ost (pv 0) pe_str) (pss_one (ps_ost (pv 0) (pv 1))), ?_⟩
    refine ⟨.ref a, rfl, a, C, rfl, T.ox, T.noW, .inl ⟨ha, fun dx nd ne => ?_⟩⟩
    refine ⟨v, rfl, .ref a, rfl, a, C, rfl, T.ox, T.noF, .inr ⟨dx, _, upd_same, ?_, (by show 1 ≤ 900; decide), q dx nd ne⟩⟩
    rw [upd_ne ne, upd_same]
/-- the heap behind a refusal that was made -/
theorem xd_same {H : Hp} {a dx : Addr} {o1 o2 o3 o4 o5 : HO} (na : H a = none) (nd : H dx = none) : Same H (upd (del (upd (upd (upd (upd H a o1) dx o2) a o3) dx o4) a) dx o5) := fun b o e => by
  have n1 := ne_of_none e na
  have n2 := ne_of_none e nd
  rw [upd_ne n2, del_ne n1, upd_ne n2, upd_ne n1, upd_ne n2, upd_ne n1]
  exact e
/-- refused with the class at C, field f holding v -/
def Refd (C : Addr) (f wd : Str) (v : V) (H : Hp) (E : XK) : Prop := ∀ H' d, Same H H' → H d = none → H' d = some (.xd (exF f wd v)) → E (.ref C) (some d) H'
theorem Refd.same {C : Addr} {f wd : Str} {v : V} {H H1 : Hp} {E : XK} (h : Refd C f wd v H E) (s : Same H H1) : Refd C f wd v H1 E := fun H' d s' n e => h H' d (s.trans s') (s.free n) e
/-- raise C(v): its reading from what is wanted -/
theorem mk_refd {C : Addr} {f wd : Str} {v : V} {H : Hp} {E : XK} (h : Refd C f wd v H E) : [v].length ≤ 1000 ∧ ∀ a, H a = none → spInit2 C f wd (.ref a :: ([v] ++ [])) (upd H a (exo a C none))
    (fun u H2 => u = .non ∧ ∃ (d : Addr) (fs : List (Str × V)), H2 a = some (exo a C (some d)) ∧ H2 d = some (exd d fs) ∧ H d = none ∧ E (.ref C) (some d) (upd (del H2 a) d (.xd fs))) (fun _ _ _ => False) := by
  refine ⟨(by show 1 ≤ 1000; decide), fun a na => ⟨a, v, rfl, upd_same, fun dx nd ne => ⟨rfl, dx, exF f wd v, ?_, upd_same, ?_, ?_⟩⟩⟩
  · rw [upd_ne (Ne.symm ne), upd_same]
  · rw [upd_ne ne] at nd
    exact nd
  · rw [upd_ne ne] at nd
    exact h _ dx (xd_same na nd) nd upd_same
def spLook (C : Addr) : Sp := fun vs H Q E => ∃ (p : Addr) (ll : List (List Int)), vs = [.ref p] ∧ LotAt H p ll ∧ ll.length ≤ 100 ∧ (∀ r ∈ ll, r.length ≤ 100) ∧
  (flaw ll = none → ∀ H', Same H H' → Q .non H') ∧ ∀ k, flaw ll = some k → Refd C "kind" "bad lot" (.int k) H E
/-- BadLot as it stands: its class, its __init__ -/
structure BadTxt (P : Program) (w : World) (K : PySem.W.Frag) (mg : Str → Option Value) (base : Heap) (x : Str) (C : Addr) (f wd : Str) : Prop where
  c2 : Cls2 K C f
  gC : mg x = some (.ref C)
  ini : ∃ (fI : Addr) (fd : FuncData), PySem.W.findIn K (.ref C) "__init__" = some (some (.ref fI)) ∧ PySem.W.typeIn K (.ref fI) = some (.type "function") ∧
    FnOk P w K mg base CX0 1 fI fd ["self", f] (spInit2 C f wd) ∧ Binds K fd ["self", f] []
theorem ok_look {f : Addr} {fd : FuncData} {C : Addr} (F : Fun K "look_lot" "look_lot" sLook f fd) (B : Bl mg) (M : Consts mg) (T : BadTxt P w K mg base "BadLot" C "kind" "bad lot") (CH : Cal P w K mg base CX0 1 "is_hold" ["hold", "goods"] spIsHold) :
    FnOk P w K mg base (L2.CX P w) 3 f fd ["lot"] (spLook C) := by
  obtain ⟨t5, m5⟩ := M.kinds
  obtain ⟨t3, m3⟩ := M.goods
  obtain ⟨fH, fdH, GH, gH, kH, bH⟩ := CH.ex
  obtain ⟨fI, fdI, iC, tI, GI, bI⟩ := T.ini
  refine F.okX scLk (fun vs H Q E h => ?_) (fun cdv A outer s H vs Q E hr h => ?_)
  · obtain ⟨p, ll, rfl, _⟩ := h
    rfl
  · obtain ⟨p, ll, rfl, ⟨as, hp, hR⟩, hz, hz2, q0, q1⟩ := h
    have hlen := hR.len
    refine ⟨_, pss_cons (ps_if (PW.pt (pw_or (pt_not (pt_chain op_le op_le pe_int (pe_callB call_len_seq (by rfl) B.len PySem.boot_len (pa_cons (pv 0) pa_nil)) (pe_glob (v := .int 5) rfl m5 ⟨_, rfl⟩)))
          (pw_or1 (pt_not (pt_chain op_le op_le pe_int (pe_callB call_len_seq (by rfl) B.len PySem.boot_len (pa_cons (pe_ix ix_tup (pv 0) pe_int (fun _ _ => rfl)) pa_nil)) (pe_glob (v := .int 3) rfl m3 ⟨_, rfl⟩))))))
          (pss_one (ps_raise rfl (takes_of rfl rfl rfl rfl) (pmk_oex T.c2.ox iC tI GI hr bI .nil pass0 (by rfl) T.gC (pa_cons (pe_un un_neg pe_int) pa_nil)))) pss_nil)
      (pss_one (ps_for (passes_of rfl) rfl (pi_enumT (by rfl) B.enumerate (pa_cons (pv 0) pa_nil)) (pg_tup rfl (pgs_cons (pg_name (i := 1) scLk.nd rfl (.inl rfl)) (pgs_cons (pg_name (i := 2) scLk.nd rfl (.inl rfl)) pgs_nil)))
        (pss_one (ps_if (pt_not (pt_val (pe_call GH (hr.mono (by decide)) (by rfl) gH kH bH .nil pass0 (pa_cons (pv 2) (pa_cons (pe_callB call_len_seq (by rfl) B.len PySem.boot_len (pa_cons (pe_ix ix_tup (pv 0) pe_int (fun _ _ => rfl)) pa_nil)) pa_nil)))))
          (pss_one (ps_raise rfl (takes_of rfl rfl rfl rfl) (pmk_oex T.c2.ox iC tI GI hr bI .nil pass0 (by rfl) T.gC (pa_cons (pv 1) pa_nil)))) pss_nil)))), ?_⟩
    have sP : SqT K H p (as.map V.ref) := SqT.of hp
    refine ⟨.ref p, rfl, p, _, rfl, .inr sP, 1, _, rfl, rfl, _, rfl, chainI ?_⟩
    rw [List.length_map, hlen]
    refine ite2 (fun c1 => iteT ?_) (fun c1 => ?_)
    · have e : flaw ll = some (-1) := by
        unfold flaw
        rw [if_neg (fun z => ?_)]
        simp at c1
        omega
      exact ⟨1, rfl, mk_refd (q1 _ e)⟩
    · have c1' : 1 ≤ ll.length ∧ ll.length ≤ 5 := by
        simp at c1
        omega
      obtain ⟨a0, ha0, hh0, hw⟩ := hR.head c1'.1
      have at0 : atI (as.map V.ref) 0 = some (.ref a0) := atI_nat (j := 0) (by rw [List.getElem?_map, ha0]; rfl)
      refine ⟨.ref p, rfl, p, _, 0, .ref a0, rfl, rfl, sP, at0, a0, _, rfl, .inr (SqT.of hh0), 1, _, rfl, rfl, _, rfl, chainI ?_⟩
      rw [List.length_map, hw]
      refine ite2 (fun c2 => ?_) (fun c2 => ?_)
      · have e : flaw ll = some (-1) := by
          unfold flaw
          rw [if_neg (fun z => ?_)]
          simp at c2
          omega
        exact ⟨1, rfl, mk_refd (q1 _ e)⟩
      · have c2' : 1 ≤ width ll ∧ width ll ≤ 3 := by
          simp at c2
          omega
        have eF : flaw ll = flawIn (width ll) ll := by
          unfold flaw
          rw [if_pos ⟨c1'.1, c1'.2, c2'.1, c2'.2⟩]
        refine ⟨.ref p, rfl, p, _, rfl, sP, ?_⟩
        refine ⟨fun i m σ H' => i + m = as.length ∧ Same H H' ∧ (∃ y1 y2, σ = [some (.ref p), y1, y2]) ∧ ∀ (j : Nat) (r' : List Int), j < i → ll[j]? = some r' → okRow (width ll) r' = true,
          ⟨as.length, by omega, Same.refl _, ⟨none, none, rfl⟩, fun j r' hj => absurd hj (Nat.not_lt_zero j)⟩, fun i m σ H' hW => ?_⟩
        obtain ⟨em, sm, ⟨y1, y2, rfl⟩, ih⟩ := hW
        have sP' : SqT K H' p (as.map V.ref) := SqT.of (sm _ _ hp)
        by_cases hi : i < as.length
        · have hai : as[i]? = some as[i] := List.getElem?_eq_getElem hi
          obtain ⟨r, hr1, hr2⟩ := hR.at hai
          have g1 : (as.map V.ref)[i]? = some (.ref as[i]) := by rw [List.getElem?_map, hai]; rfl
          refine .inr ⟨⟨_, _, sP', g1⟩, fun σ' H2 => Same H H2 ∧ (∃ y1 y2, σ' = [some (.ref p), y1, y2]) ∧ okRow (width ll) r = true, fun σ' H2 hN => ?_, fun x H2 hy => ?_⟩
          · obtain ⟨s2, hσ, hk⟩ := hN
            refine ⟨m - 1, by omega, by omega, s2, hσ, fun j r' hj hjr => ?_⟩
            by_cases hji : j < i
            · exact ih j r' hji hjr
            · have e : j = i := by omega
              subst e
              rw [hr1] at hjr
              cases hjr
              exact hk
          · obtain ⟨T2, x2, rfl, nT, rfl, f2⟩ := hy
            have ex2 : x2 = .ref as[i] := Option.some.inj ((f2 _ sP').symm.trans g1)
            subst ex2
            have s3 : Same H (upd H' T2 (.tup [.int (i : Nat), .ref as[i]])) := sm.trans (same_new nT)
            refine ⟨T2, _, rfl, SqT.of upd_same, rfl, _, _, rfl, _, _, rfl, rfl, ?_⟩
            refine ⟨.ref as[i], rfl, .ref p, rfl, p, _, 0, .ref a0, rfl, rfl, SqT.of (s3 _ _ hp), at0, a0, _, rfl, .inr (SqT.of (s3 _ _ hh0)), as[i], width ll, r, ?_, s3 _ _ hr2, Nat.le_trans (hz2 r (List.mem_of_getElem? hr1)) (by decide), c2'.1, fun H4 s4 => ⟨_, rfl, ?_⟩⟩
            · rw [List.length_map, hw]
              rfl
            · refine ite2 (fun d1 => ?_) (fun d1 => ?_)
              · have hb : okRow (width ll) r = false := by
                  cases e : okRow (width ll) r with
                  | false => rfl
                  | true => rw [e] at d1; cases d1
                refine ⟨_, rfl, mk_refd ?_⟩
                exact (q1 _ (eF.trans (flawIn_at hr1 hb ih))).same (s3.trans s4)
              · refine ⟨s3.trans s4, ⟨_, _, rfl⟩, ?_⟩
                cases e : okRow (width ll) r with
                | true => rfl
                | false => rw [e] at d1; exact absurd rfl d1
        · refine .inl ⟨⟨_, sP', ?_⟩, ?_⟩
          · rw [List.length_map]
            omega
          · exact q0 (eF.trans (flawIn_none fun j r' hj => ih j r' (by omega))) H' sm
def spGoods (C : Addr) : Sp := fun vs H Q E => ∃ (p : Addr) (ll : List (List Int)), vs = [.ref p] ∧ LotAt H p ll ∧ ll.length ≤ 100 ∧ (∀ r ∈ ll, r.length ≤ 100) ∧
  (flaw ll = none → ∀ H', Same H H' → Q (.int (width ll)) H') ∧ ∀ k, flaw ll = some k → Refd C "kind" "bad lot" (.int k) H E
theorem ok_goods {f : Addr} {fd : FuncData} {C : Addr} (F : Fun K "goods_of" "goods_of" sGoods f fd) (B : Bl mg) (CL : Cal P w K mg base (L2.CX P w) 3 "look_lot" ["lot"] (spLook C)) :
    FnOk P w K mg base (L2.CX P w) 4 f fd ["lot"] (spGoods C) := by
  obtain ⟨fL, fdL, GL, gL, kL, bL⟩ := CL.ex
  refine F.okX scGo (fun vs H Q E h => ?_) (fun cdv A outer s H vs Q E hr h => ?_)
  · obtain ⟨p, ll, rfl, _⟩ := h
    rfl
  · obtain ⟨p, ll, rfl, ⟨as, hp, hR⟩, hz, hz2, q0, q1⟩ := h
    refine ⟨_, pss_cons (ps_expr (pe_call GL hr (by rfl) gL kL bL .nil (passes_call (takes_of rfl rfl rfl rfl) (fun _ _ _ _ h => h)) (pa_cons (pv 0) pa_nil)))
      (pss_one (ps_ret (pe_callB call_len_seq (by rfl) B.len PySem.boot_len (pa_cons (pe_ix ix_tup (pv 0) pe_int (fun _ _ => rfl)) pa_nil)))), ?_⟩
    refine ⟨.ref p, rfl, p, ll, rfl, ⟨as, hp, hR⟩, hz, hz2, fun e H' sm => ?_, q1⟩
    obtain ⟨a0, ha0, hh0, hw⟩ := hR.head (flaw_ok e).1
    have at0 : atI (as.map V.ref) 0 = some (.ref a0) := atI_nat (j := 0) (by rw [List.getElem?_map, ha0]; rfl)
    refine ⟨.ref p, rfl, p, _, 0, .ref a0, rfl, rfl, SqT.of (sm _ _ hp), at0, a0, _, rfl, .inr (SqT.of (sm _ _ hh0)), ?_⟩
    have q2 := q0 e H' sm
    rw [← hw] at q2
    rw [List.length_map]
    exact q2
theorem scPick : FnScope ["_law_feed_here", "_law_row"] ["_law_feed_here", "_law_row"] (defScope sPick) := ⟨rfl, rfl, rfl, by decide +kernel, rfl, by decide +kernel, by decide +kernel⟩
def spPick : Sp := fun vs H Q _ => ∃ (f c r : Addr) (xs : List V), vs = [.ref f, .ref r] ∧ H r = some (.lst xs) ∧ r ≠ f ∧ 1 ≤ xs.length ∧ xs.length ≤ 1000 ∧ FeedAt c H f ∧
  ∀ v H', v ∈ xs → Kp f H H' → FeedAt c H' f → Q v H'
theorem ok_pick {f : Addr} {fd : FuncData} (F : Fun K "_law_pick" "_law_pick" sPick f fd) (ml : mg "len" = none) (CD : Cal P w K mg base CX0 1 "_law_draw" ["_law_feed_here", "_law_many"] spDraw) :
    FnOk P w K mg base CX0 2 f fd ["_law_feed_here", "_law_row"] spPick := by
  obtain ⟨fD, fdD, GD, gD, kD, bD⟩ := CD.ex
  refine F.ok scPick (fun vs H Q E h => ?_) (fun cdv A outer s H vs Q E hr h => ?_)
  · obtain ⟨a, c, r, xs, rfl, _⟩ := h
    rfl
  · obtain ⟨a, c, r, xs, rfl, hx, hne, l1, l2, Fd, q⟩ := h
    refine ⟨_, pss_one (ps_ret (pe_ix ix_list (pv 1) (pe_call GD hr (by rfl) gD kD bD .nil pass0 (pa_cons (pv 0) (pa_cons (pe_callB call_len_seq (by rfl) ml PySem.boot_len (pa_cons (pv 1) pa_nil)) pa_nil))) (fun _ _ => rfl))), ?_⟩
    refine ⟨.ref r, rfl, .ref a, rfl, .ref r, rfl, r, xs, rfl, .inl (SqL.of hx), a, c, (xs.length : Nat), rfl, by omega, by omega, Fd, fun d H' d0 d1 kp F' => ?_⟩
    obtain ⟨z, hz, hm, _⟩ := atI_mem d0 d1
    exact ⟨r, xs, d, z, rfl, rfl, SqL.of (kp _ _ hne hx), hz, q z H' hm kp F'⟩
end
abbrev veT : List Value := [.type "ValueError", .type "Exception", .type "BaseException", .type "object"]
structure Cls1 (K : PySem.W.Frag) (C : Addr) : Prop where
  ox : OexB K C "ValueError.__new__" veT
  noW : PySem.W.findIn K (.ref C) "word" = some none
def spInit1 (C : Addr) (wd : Str) : Sp := fun vs H Q _ => ∃ a : Addr, vs = [.ref a] ∧ H a = some (exo a C none) ∧ ∀ dx, H dx = none → dx ≠ a → Q .non (upd (upd H dx (exd dx [("word", .str wd)])) a (exo a C (some dx)))
section
variable {P : Program} {w : World} {K : PySem.W.Frag} {mg : Str → Option Value} {base : Heap}
theorem ok_otherInit {f : Addr} {fd : FuncData} {k : Nat} {C : Addr} (F : Fun K "__init__" "OtherGoods.__init__" sOtherInit f fd) (T : Cls1 K C) : FnOk P w K mg base CX0 (k + 1) f fd ["self"] (spInit1 C "other goods") := by
  refine F.ok scOI (fun vs H Q E h => ?_) (fun cdv A outer s H vs Q E hr h => ?_)
  · obtain ⟨a, rfl, _⟩ := h
    rfl
  · obtain ⟨a, rfl, ha, q⟩ := h
    refine ⟨_, pss_one (ps_ostB (nid := "ValueError.__new__") (bmB := veT) (pv 0) pe_str), ?_⟩
    exact ⟨.ref a, rfl, a, C, rfl, T.ox, T.noW, .inl ⟨ha, fun dx nd ne => q dx nd ne⟩⟩
structure BadTxt1 (P : Program) (w : World) (K : PySem.W.Frag) (mg : Str → Option Value) (base : Heap) (x : Str) (C : Addr) (wd : Str) : Prop where
  c1 : Cls1 K C
  gC : mg x = some (.ref C)
  ini : ∃ (fI : Addr) (fd : FuncData), PySem.W.findIn K (.ref C) "__init__" = some (some (.ref fI)) ∧ PySem.W.typeIn K (.ref fI) = some (.type "function") ∧
    FnOk P w K mg base CX0 1 fI fd ["self"] (spInit1 C wd) ∧ Binds K fd ["self"] []
end
/-- refused with the class at C, its word wd -/
def RefW (C : Addr) (wd : Str) (H : Hp) (E : XK) : Prop := ∀ H' d fs, Same H H' → H' d = some (.xd fs) → fs.lookup (Str.ofString "word") = some (V.str wd) → E (.ref C) (some d) H'
theorem RefW.same {C : Addr} {wd : Str} {H H1 : Hp} {E : XK} (h : RefW C wd H E) (s : Same H H1) : RefW C wd H1 E := fun H' d fs s' e l => h H' d fs (s.trans s') e l
theorem RefW.refd {C : Addr} {f wd : Str} {v : V} {H : Hp} {E : XK} (h : RefW C wd H E) (hf : (("word" : Str) == f) = false) : Refd C f wd v H E := fun H' d s nd e => h H' d _ s e (by
  show List.lookup (Str.ofString "word") [(f, v), (Str.ofString "word", V.str wd)] = _
  rw [List.lookup_cons, hf]
  exact List.lookup_cons_self)
theorem mk_ref1 {C : Addr} {wd : Str} {H : Hp} {E : XK} (h : RefW C wd H E) : ([] : List V).length ≤ 1000 ∧ ∀ a, H a = none → spInit1 C wd [.ref a] (upd H a (exo a C none))
    (fun u H2 => u = .non ∧ ∃ (d : Addr) (fs : List (Str × V)), H2 a = some (exo a C (some d)) ∧ H2 d = some (exd d fs) ∧ H d = none ∧ E (.ref C) (some d) (upd (del H2 a) d (.xd fs))) (fun _ _ _ => False) := by
  refine ⟨Nat.zero_le _, fun a na => ⟨a, rfl, upd_same, fun dx nd ne => ⟨rfl, dx, [("word", .str wd)], upd_same, ?_, ?_, ?_⟩⟩⟩
  · rw [upd_ne ne, upd_same]
  · rw [upd_ne ne] at nd
    exact nd
  · rw [upd_ne ne] at nd
    refine h _ dx _ (fun b o e => ?_) upd_same ?_
    · have n1 := ne_of_none e na
      have n2 := ne_of_none e nd
      rw [upd_ne n2, del_ne n1, upd_ne n1, upd_ne n2, upd_ne n1]
      exact e
    · exact List.lookup_cons_self
/-- f(k = v, ..) -/
theorem pe_kw0 {X : Cx} {CX : CXT} {k : Nat} {f : Addr} {fd : FuncData} {ps ks : List Str} {sp : Sp} {E : XK} {x : Str} {p pos : Pos} {kws : List Keyword} {tk : TA} {g : List Value → List Value → List Value} {gV : List V → List V → List V}
    (F : FnOk X.prog X.w X.K X.mg X.base CX k f fd ps sp) (hr : Room k X.A) (hg : Gl X x) (hm : X.mg x = some (.ref f)) (hk : PySem.W.keepIn X.K (.ref f) = true) (hb : KBn X.K fd ps 0 ks g gV) (hx : Passes CX X E) (hkw : PK X kws tk)
    (hall : (backToKw pos (keywordEach kws X.env)).all (·.1.isSome) = true := by rfl)
    (hks : (backToKw pos (keywordEach kws X.env)).filterMap (·.1) = ks := by rfl) (hdb : (x == ("__debug__" : Str)) = false := by decide)
    (hpl : ((backTo pos (starEach [] X.env)).any (·.1) || (backToKw pos (keywordEach kws X.env)).any (·.1.isNone)) = false := by rfl) : PE X (.Call (.Name x p) [] kws pos) (tCallN 0 ks.length sp gV E tNil tk) := by
  refine ⟨fun pins s σ H Q I h => wpAny_Call_Name_kw (ld_glob I hg hm ?_ hdb)⟩
  refine PySem.W.callWith_KW0 (h₀ := X.base) I.ok.mod.kin hk hall (thn (hkw.run pos pins s σ H _ I h) fun ws s2 ⟨zs, H2, I2, rz, l1, l2, q2⟩ => ⟨I2.kIn, ?_⟩) hpl
  rw [hks]
  exact run_fnN (us := []) (vs := []) F hr hb hx I2 .nil rz rfl l2 q2
theorem FeedAt.ext {c : Addr} {H H' : Hp} {f : Addr} (F : FeedAt c H f) (e : ExtN H H') : FeedAt c H' f := by
  obtain ⟨ns, i, b, m, n, h1, h2, h3⟩ := F
  exact ⟨ns, i, b, m, n, e _ _ h1 (fun ps z => by cases z), e _ _ h2 (fun ps z => by cases z), h3⟩
theorem IntsAt.ext {H H' : Hp} {p : Addr} {ns : List Int} (h : IntsAt H p ns) (e : ExtN H H') : IntsAt H' p ns := e _ _ h (fun ps z => by cases z)
theorem tabs_kp {T : List (Addr × Str)} {H H' : Hp} {f c : Addr} (t : Tabs T H) (F : FeedAt c H f) (k : Kp f H H') : Tabs T H' := fun p hp => by
  obtain ⟨ps, h1, h2, h3⟩ := t p hp
  obtain ⟨ns, i, b, m, n, g1, _⟩ := F
  refine ⟨ps, k _ _ (ne_of h1 g1 (fun z => by cases z)) h1, h2, fun pos cv hc => ?_⟩
  obtain ⟨c0, e1, e2⟩ := h3 pos cv hc
  refine ⟨c0, e1, k _ _ (ne_of e2 g1 (fun z => ?_)) e2⟩
  unfold CodeO at z
  cases z
theorem tabs_list {T : List (Addr × Str)} {H : Hp} {l : Addr} {xs ys : List V} (t : Tabs T H) (h : H l = some (.lst xs)) : Tabs T (upd H l (.lst ys)) := fun p hp => by
  obtain ⟨ps, h1, h2, h3⟩ := t p hp
  refine ⟨ps, by rw [upd_ne (ne_of h1 h (fun z => by cases z))]; exact h1, h2, fun pos cv hc => ?_⟩
  obtain ⟨c0, e1, e2⟩ := h3 pos cv hc
  refine ⟨c0, e1, ?_⟩
  rw [upd_ne (ne_of e2 h (fun z => ?_))]
  · exact e2
  · unfold CodeO at z
    cases z
/-- the slots of a def are as many as its names -/
theorem takes_len {X : Cx} {W : WX} (tk : Takes X W) : Takes X (fun cls d σ H => σ.length = X.N.length → W cls d σ H) := fun u s' ⟨a, B, sI, pins, σ, H, cls, d, e, I, nb, up, sky, na, os, ag, w⟩ =>
  tk u s' ⟨a, B, sI, pins, σ, H, cls, d, e, I, nb, up, sky, na, os, ag, w I.len⟩
theorem eqd_tup {H : Hp} {a b : Addr} {xs : List V} {d : Nat} (ha : H a = some (.tup xs)) (hb : H b = some (.tup xs)) (hz : xs.length ≤ 1000) (hl : ∀ x ∈ xs, leafV x = true) : Eqd H (d + 1) (.ref a) (.ref b) :=
  .inr ⟨a, b, xs, xs, rfl, rfl, .inr ⟨ha, hb⟩, rfl, hz, fun i x y h1 h2 => by
    rw [h1] at h2
    cases h2
    have e := hl x (List.mem_of_getElem? h1)
    cases d with
    | zero => exact ⟨rfl, e⟩
    | succ d => exact .inl ⟨rfl, e⟩⟩
theorem sz_2 (v w : V) : [v, w].length ≤ sizeLine := by
  show 2 ≤ sizeLine
  decide
/-! ### an ask, told by its word -/
abbrev NW : List Str := ["_law_ask", "_law_word_here", "_law_answer", "e"]
theorem scWord : FnScope NW ["_law_ask"] (defScope sWord) := ⟨rfl, rfl, rfl, by decide +kernel, rfl, by decide +kernel, by decide +kernel⟩
/-- a class that an ask may end with; l: whether it is of Missing's family, else of LotError's -/
structure FamW (K : PySem.W.Frag) (CE CM : Addr) (C : Addr) (l : Bool) : Prop where
  x : XfC K C
  nW : PySem.W.findIn K (.ref C) "word" = some none
  ce : PySem.W.exmOne K (.ref C) (.ref CE) = some (!l)
  cm : l = true → PySem.W.exmOne K (.ref C) (.ref CM) = some true
structure ClsW (mg : Str → Option Value) (CE CM CN : Addr) : Prop where
  gE : mg "LotError" = some (.ref CE)
  gM : mg "Missing" = some (.ref CM)
  gN : mg "NothingLeft" = some (.ref CN)
def tXfA (K : PySem.W.Frag) (a : Addr) (cls : Value) (d : Option Addr) (n : Str) (te : TE) : TE := fun σ H Q => ∃ C, XfC K C ∧ PySem.W.findIn K (.ref C) n = some none ∧ tXf a cls d C n te σ H Q
theorem pe_xfA {X : Cx} {a : Addr} {oe : Obj} {cls : Value} {d : Option Addr} {pn : List (Addr × Obj)} {e : Expr} {te : TE} {pos : Pos} {n : Str} (hz : Zc cls d oe) (hf : ∃ vs, oe.data = .fields vs) (he : PE (X.suite a ((a, oe) :: pn)) e te)
    (hb : attributeBase e n X.env (eval e X.env) = eval e X.env := by rfl) : PE (X.suite a ((a, oe) :: pn)) (.Attribute e n pos) (tXfA X.K a cls d n te) := ⟨fun pins s σ H Q I ⟨C, T, hno, h⟩ => (pe_xf T hno hz hf he hb).run pins s σ H Q I h⟩
def CatchW (K : PySem.W.Frag) (CE CM : Addr) (Q : VK) : XK := fun cls d H' => ∃ (C dd : Addr) (fs : List (Str × V)) (wd : Str) (l : Bool), FamW K CE CM C l ∧ d = some dd ∧ cls = .ref C ∧ H' dd = some (.xd fs) ∧ fs.lookup (Str.ofString "word") = some (V.str wd) ∧ ∀ t, H' t = none → Q (.ref t) (upd H' t (.tup [.non, .str wd]))
def TTw (K : PySem.W.Frag) (CE CM : Addr) : (XK → Hp → VK → Prop) → Hp → VK → Prop := fun tl H Q => tl (CatchW K CE CM Q) H (fun v H' => ∀ t, H' t = none → Q (.ref t) (upd H' t (.tup [v, .str ""])))
theorem word_gives {X : Cx} {q : Str} {g CE CM CN : Addr} {cdg : Value} (T : ClsW X.mg CE CM CN) : AsksOf X NW "_law_word" (defScope sWord) g cdg (defBody sWord) "_law_ask" q (TTw X.K CE CM) := by
  intro f c' s H Q tl act hc h
  refine ⟨_, pss_cons (ps_set (i := 1) scWord.nd rfl (.inl rfl) pe_str) (pss_cons (ps_set (i := 2) scWord.nd rfl (.inl rfl) pe_non) (pss_cons (ps_try_manyA (i := 3) (n := "e")
      (tb := fun W D σ H => ∃ Ech : XK, (∀ cls d H', Ech cls d H' → W cls d σ H') ∧ σ[0]? = some (some (.ref f)) ∧ H c' = some (CodeO c' q) ∧ tl Ech H (fun v H' => D.nx (σ.set 2 (some v)) H')) (Wout := fun _ _ _ _ => False)
      (l := [(.ref CE, fun a cls d => tAsg (tXfA X.K a cls d "word" (tVar 3)) (gName 1)), (.ref CM, fun a cls d => tAsg (tXfA X.K a cls d "word" (tVar 3)) (gName 1)), (.ref CN, fun a cls d => tAsg (tXfA X.K a cls d "word" (tVar 3)) (gName 1))])
      rfl rfl scWord.nd rfl rfl LamX.takes0 (fun W pn xe tk _ => ⟨fun pins s' σ H' D I h' => ?_⟩)
      (.cons ⟨rfl, by decide, .inl T.gE⟩ (fun a oe cls d pn hz hf => pss_one (ps_set (i := 1) scWord.nd rfl (.inl rfl) (pe_xfA hz hf (pv 3))))
      (.cons ⟨rfl, by decide, .inl T.gM⟩ (fun a oe cls d pn hz hf => pss_one (ps_set (i := 1) scWord.nd rfl (.inl rfl) (pe_xfA hz hf (pv 3))))
      (.cons ⟨rfl, by decide, .inl T.gN⟩ (fun a oe cls d pn hz hf => pss_one (ps_set (i := 1) scWord.nd rfl (.inl rfl) (pe_xfA hz hf (pv 3)))) .nil))))
    (pss_one (ps_ret (pe_tup (pa_cons (pv 2) (pa_cons (pv 1) pa_nil))))))), ?_⟩
  · obtain ⟨Ech, hW, h1, h2, h3⟩ := h'
    exact (pss_one (ps_set (i := 2) scWord.nd rfl (.inl rfl) (act σ W pn xe Ech _ _ tk hW))).run pins s' σ H' D I ⟨rfl, h1, h2, h3⟩
  · refine ⟨CatchW X.K CE CM Q, fun cls d H' hE => ?_, rfl, hc, ?_⟩
    · obtain ⟨C, dd, fs, wd, l, Fm, rfl, rfl, hd, hl, hQ⟩ := hE
      cases l with
      | false =>
        refine ⟨true, Fm.ce, fun _ a na => ?_, fun z => Bool.noConfusion z⟩
        exact ⟨C, Fm.x, Fm.nW, .ref a, rfl, rfl, rfl, dd, _, .str wd, rfl, hd, hl, .non, rfl, .str wd, rfl, sz_2 _ _, fun t nt => hQ t nt⟩
      | true =>
        refine ⟨false, Fm.ce, fun z => Bool.noConfusion z, fun _ => ⟨true, Fm.cm rfl, fun _ a na => ?_, fun z => Bool.noConfusion z⟩⟩
        exact ⟨C, Fm.x, Fm.nW, .ref a, rfl, rfl, rfl, dd, _, .str wd, rfl, hd, hl, .non, rfl, .str wd, rfl, sz_2 _ _, fun t nt => hQ t nt⟩
    · have e2 : (fun (v : V) (H' : Hp) => ∃ x2, ([some (.ref f), some (.str ""), some v, none] : L2.St)[2]? = some (some x2) ∧ ∃ x1, ([some (.ref f), some (.str ""), some v, none] : L2.St)[1]? = some (some x1) ∧ ([x2, x1].length ≤ sizeLine ∧ ∀ t, H' t = none → Q (.ref t) (upd H' t (.tup [x2, x1])))) =
          (fun (v : V) (H' : Hp) => ∀ t, H' t = none → Q (.ref t) (upd H' t (.tup [v, .str ""]))) := by
        funext v H'
        refine propext ⟨fun ⟨x2, h2, x1, h1, _, hq⟩ => ?_, fun hq => ⟨v, rfl, .str "", rfl, sz_2 _ _, hq⟩⟩
        cases Option.some.inj (Option.some.inj h2)
        cases Option.some.inj (Option.some.inj h1)
        exact hq
      have h' : tl (CatchW X.K CE CM Q) H (fun (v : V) (H' : Hp) => ∃ x2, ([some (.ref f), some (.str ""), some v, none] : L2.St)[2]? = some (some x2) ∧ ∃ x1, ([some (.ref f), some (.str ""), some v, none] : L2.St)[1]? = some (some x1) ∧ ([x2, x1].length ≤ sizeLine ∧ ∀ t, H' t = none → Q (.ref t) (upd H' t (.tup [x2, x1])))) := by
        rw [e2]
        exact h
      exact h'
/-- a refusal caught: what an ask that may be refused wants of E -/
theorem caught {K : PySem.W.Frag} {CE CM C : Addr} {wd : Str} {l : Bool} {H : Hp} {Q : VK} (Fm : FamW K CE CM C l) (q : ∀ H' t, Same H H' → H' t = some (.tup [.non, .str wd]) → Q (.ref t) H') : RefW C wd H (CatchW K CE CM Q) :=
  fun H' d fs s e hl => ⟨C, d, fs, wd, l, Fm, rfl, rfl, e, hl, fun t nt => q _ t (s.trans (same_new nt)) upd_same⟩
end HL

set_option pp.maxSteps 3000
namespace HL
open PySem PySem.Spec PyProof.Rows L2
open C8 (pss_cut)
def IT (K : PySem.W.Frag) (H : Hp) (a : Addr) (ns : List Int) : Prop := SqT K H a (ns.map V.int)
theorem sqT_same {K : PySem.W.Frag} {H H' : Hp} {a : Addr} {xs : List V} (h : SqT K H a xs) (s : Same H H') : SqT K H' a xs := by
  rcases h with (h | ⟨o, h⟩) | h
  · exact .inl (.inl (s _ _ h))
  · exact .inl (.inr ⟨o, s _ _ h⟩)
  · exact .inr h
theorem IT.same {K : PySem.W.Frag} {H H' : Hp} {a : Addr} {ns : List Int} (h : IT K H a ns) (s : Same H H') : IT K H' a ns := sqT_same h s
theorem IntsAt.it {K : PySem.W.Frag} {H : Hp} {a : Addr} {ns : List Int} (h : IntsAt H a ns) : IT K H a ns := SqT.of h
/-! ### where a row is wrong -/
def inB (n : Int) : Bool := decide (0 ≤ n ∧ n < G30)
def wrong (m : Int) (row : List Int) : Option Int := if (row.length : Int) = m then (row.findIdx? fun n => !inB n).map fun i => (i : Int) else some (-1)
def wrongV (m : Int) (row : List Int) : V := match wrong m row with
  | none => .non
  | some k => .int k
theorem wrong_at {m : Int} {row : List Int} {i : Nat} {n : Int} (hl : (row.length : Int) = m) (h : row[i]? = some n) (hb : inB n = false) (ha : ∀ (j : Nat) (z : Int), j < i → row[j]? = some z → inB z = true) : wrong m row = some (i : Int) := by
  unfold wrong
  rw [if_pos hl]
  obtain ⟨hi, he⟩ := List.getElem?_eq_some_iff.mp h
  have e : row.findIdx? (fun n => !inB n) = some i := by
    refine List.findIdx?_eq_some_iff_getElem.mpr ⟨hi, by rw [he, hb]; rfl, fun j hj => ?_⟩
    rw [ha j row[j] hj (List.getElem?_eq_getElem (by omega))]
    decide
  rw [e]
  rfl
theorem wrong_none {m : Int} {row : List Int} (hl : (row.length : Int) = m) (ha : ∀ (j : Nat) (z : Int), j < row.length → row[j]? = some z → inB z = true) : wrong m row = none := by
  unfold wrong
  rw [if_pos hl]
  have e : row.findIdx? (fun n => !inB n) = none := by
    refine List.findIdx?_eq_none_iff.mpr fun r hr => ?_
    obtain ⟨j, hj, hjr⟩ := List.mem_iff_getElem.mp hr
    rw [ha j r hj (by rw [List.getElem?_eq_getElem hj, hjr])]
    rfl
  rw [e]
  rfl
theorem wrong_len {m : Int} {row : List Int} (hl : ¬ (row.length : Int) = m) : wrong m row = some (-1) := by
  unfold wrong
  rw [if_neg hl]
theorem wrong_ok {m : Int} {row : List Int} (h : wrong m row = none) : (row.length : Int) = m ∧ ∀ n ∈ row, 0 ≤ n ∧ n < G30 := by
  unfold wrong at h
  by_cases c : (row.length : Int) = m
  · rw [if_pos c] at h
    refine ⟨c, fun n hn => ?_⟩
    have e : row.findIdx? (fun n => !inB n) = none := by
      cases z : row.findIdx? (fun n => !inB n) with
      | none => rfl
      | some i => rw [z] at h; cases h
    have := List.findIdx?_eq_none_iff.mp e n hn
    have b : inB n = true := by
      cases z : inB n with
      | true => rfl
      | false => rw [z] at this; cases this
    exact of_decide_eq_true b
  · rw [if_neg c] at h
    cases h
/-- 0 <= x < y as a test -/
theorem chainL {i j L : Int} {H : Hp} {Q : Bool → Hp → Prop} (h : Q (decide (i ≤ L ∧ L < j)) H) :
    if decide (i ≤ L) = true then (∃ a b : Int, V.int L = V.int a ∧ V.int j = V.int b ∧ ∃ k, V.bl (decide (a < b)) = V.bl k ∧ Q k H) else ∃ k, V.bl false = V.bl k ∧ Q k H := by
  by_cases c : i ≤ L
  · rw [if_pos (decide_eq_true c)]
    refine ⟨L, j, rfl, rfl, _, rfl, ?_⟩
    rw [show decide (L < j) = decide (i ≤ L ∧ L < j) by simp [c]]
    exact h
  · rw [if_neg (fun z => c (of_decide_eq_true z))]
    refine ⟨false, rfl, ?_⟩
    rw [show false = decide (i ≤ L ∧ L < j) by simp [c]]
    exact h
theorem scFirst : FnScope ["row", "many", "place", "number"] ["row", "many"] (defScope sFirst) := ⟨rfl, rfl, rfl, by decide +kernel, rfl, by decide +kernel, by decide +kernel⟩
theorem scLB : FnScope ["lot", "bill", "wrong"] ["lot", "bill"] (defScope sLookBill) := ⟨rfl, rfl, rfl, by decide +kernel, rfl, by decide +kernel, by decide +kernel⟩
section
variable {P : Program} {w : World} {K : PySem.W.Frag} {mg : Str → Option Value} {base : Heap}
def spFirst (K : PySem.W.Frag) : Sp := fun vs H Q _ => ∃ (a : Addr) (m : Int) (row : List Int), vs = [.ref a, .int m] ∧ IT K H a row ∧ row.length ≤ 100 ∧ ∀ H', Same H H' → Q (wrongV m row) H'
theorem ok_first {f : Addr} {fd : FuncData} {k : Nat} (F : Fun K "first_wrong" "first_wrong" sFirst f fd) (B : Bl mg) (mG : ∃ t, mg "GREAT" = some (.int G30 t)) : FnOk P w K mg base CX0 (k + 1) f fd ["row", "many"] (spFirst K) := by
  obtain ⟨tG, mG⟩ := mG
  refine F.ok scFirst (fun vs H Q E h => ?_) (fun cdv A outer s H vs Q E hr h => ?_)
  · obtain ⟨a, m, row, rfl, _⟩ := h
    rfl
  · obtain ⟨a, m, row, rfl, hA, hz, q⟩ := h
    refine ⟨_, pss_cons (ps_if (pt_cmpR op_ne (pe_callB call_len_seq (by rfl) B.len PySem.boot_len (pa_cons (pv 0) pa_nil)) (pv 1) (nomark _)) (pss_one (ps_ret (pe_un un_neg pe_int))) pss_nil)
      (pss_cons (ps_for PassesOwn.never rfl (pi_enumT (by rfl) B.enumerate (pa_cons (pv 0) pa_nil)) (pg_tup rfl (pgs_cons (pg_name (i := 2) scFirst.nd rfl (.inl rfl)) (pgs_cons (pg_name (i := 3) scFirst.nd rfl (.inl rfl)) pgs_nil)))
        (pss_one (ps_if (pt_not (pt_chain op_le op_lt pe_int (pv 3) (pe_glob (v := .int G30) rfl mG ⟨_, rfl⟩))) (pss_one (ps_ret (pv 2))) pss_nil)))
      (pss_one (ps_ret pe_non))), ?_⟩
    refine ⟨.ref a, rfl, a, _, rfl, .inr hA, .int m, rfl, rfl, _, rfl, ?_⟩
    rw [List.length_map]
    refine ite2 (fun c1 => ?_) (fun c1 => ?_)
    · have hl : ¬ (row.length : Int) = m := fun z => by rw [z, decide_eq_true rfl] at c1; cases c1
      have q1 := q H (Same.refl _)
      unfold wrongV at q1
      rw [wrong_len hl] at q1
      exact ⟨1, rfl, q1⟩
    · have hl : (row.length : Int) = m := by
        by_cases z : (row.length : Int) = m
        · exact z
        · refine absurd ?_ c1
          rw [decide_eq_false (fun y => z (V.int.inj y))]
          rfl
      refine ⟨.ref a, rfl, a, _, rfl, hA, ?_⟩
      refine ⟨fun i mm σ H' => i + mm = row.length ∧ Same H H' ∧ (∃ y2 y3, σ = [some (.ref a), some (.int m), y2, y3]) ∧ ∀ (j : Nat) (z : Int), j < i → row[j]? = some z → inB z = true,
        ⟨row.length, by omega, Same.refl _, ⟨none, none, rfl⟩, fun j r' hj => absurd hj (Nat.not_lt_zero j)⟩, fun i mm σ H' hW => ?_⟩
      obtain ⟨em, sm, ⟨y2, y3, rfl⟩, ih⟩ := hW
      have sA : SqT K H' a (row.map V.int) := sqT_same hA sm
      by_cases hi : i < row.length
      · have hri : row[i]? = some row[i] := List.getElem?_eq_getElem hi
        have g1 : (row.map V.int)[i]? = some (.int row[i]) := by rw [List.getElem?_map, hri]; rfl
        refine .inr ⟨⟨_, _, sA, g1⟩, fun σ' H2 => Same H H2 ∧ (∃ y2 y3, σ' = [some (.ref a), some (.int m), y2, y3]) ∧ inB row[i] = true, fun σ' H2 hN => ?_, fun x H2 hy => ?_⟩
        · obtain ⟨s2, hσ, hk⟩ := hN
          refine ⟨mm - 1, by omega, by omega, s2, hσ, fun j z hj hjr => ?_⟩
          by_cases hji : j < i
          · exact ih j z hji hjr
          · have e : j = i := by omega
            subst e
            rw [hri] at hjr
            cases hjr
            exact hk
        · obtain ⟨T2, x2, rfl, nT, rfl, f2⟩ := hy
          have ex2 : x2 = .int row[i] := Option.some.inj ((f2 _ sA).symm.trans g1)
          subst ex2
          have s3 : Same H (upd H' T2 (.tup [.int (i : Nat), .int row[i]])) := sm.trans (same_new nT)
          refine ⟨T2, _, rfl, SqT.of upd_same, rfl, _, _, rfl, _, _, rfl, rfl, ?_⟩
          refine ⟨.int row[i], rfl, 0, row[i], rfl, rfl, _, rfl, chainL ?_⟩
          refine ite2 (fun d1 => ?_) (fun d1 => ?_)
          · have hb : inB row[i] = false := by
              unfold inB
              cases e : decide (0 ≤ row[i] ∧ row[i] < G30) with
              | false => rfl
              | true => rw [e] at d1; cases d1
            have q1 := q _ s3
            unfold wrongV at q1
            rw [wrong_at hl hri hb ih] at q1
            exact ⟨_, rfl, q1⟩
          · refine ⟨s3, ⟨_, _, rfl⟩, ?_⟩
            unfold inB
            cases e : decide (0 ≤ row[i] ∧ row[i] < G30) with
            | true => rfl
            | false => rw [e] at d1; exact absurd rfl d1
      · refine .inl ⟨⟨_, sA, ?_⟩, ?_⟩
        · rw [List.length_map]
          omega
        · have q1 := q H' sm
          unfold wrongV at q1
          rw [wrong_none hl (fun j z hj => ih j z (by omega))] at q1
          exact q1
def LotB (H : Hp) (p : Addr) (as : List Addr) (ll : List (List Int)) : Prop := RowsAt H p as ll ∧ ll.length ≤ 100 ∧ ∀ r ∈ ll, r.length ≤ 100
theorem LotB.same {H H' : Hp} {p : Addr} {as : List Addr} {ll : List (List Int)} (h : LotB H p as ll) (s : Same H H') : LotB H' p as ll := ⟨h.1.same s, h.2⟩
theorem wrongV_non {m : Int} {row : List Int} : wrongV m row = .non ↔ wrong m row = none := by
  unfold wrongV
  cases wrong m row with
  | none => exact ⟨fun _ => rfl, fun _ => rfl⟩
  | some k => exact ⟨fun z => (by cases z), fun z => (by cases z)⟩
theorem wrongV_some {m : Int} {row : List Int} (h : ¬ wrongV m row = .non) : ∃ k, wrong m row = some k ∧ wrongV m row = .int k := by
  cases e : wrong m row with
  | none => exact absurd (wrongV_non.mpr e) h
  | some k => exact ⟨k, rfl, by unfold wrongV; rw [e]⟩
def spLookBill (K : PySem.W.Frag) (C CB : Addr) : Sp := fun vs H Q E => ∃ (p b : Addr) (as : List Addr) (ll : List (List Int)) (row : List Int), vs = [.ref p, .ref b] ∧ LotB H p as ll ∧ IT K H b row ∧ row.length ≤ 100 ∧
  (∀ k, flaw ll = some k → Refd C "kind" "bad lot" (.int k) H E) ∧ (flaw ll = none → ∀ k, wrong (width ll) row = some k → Refd CB "good" "bad bill" (.int k) H E) ∧ (flaw ll = none → wrong (width ll) row = none → ∀ H', Same H H' → Q .non H')
theorem ok_lookBill {f : Addr} {fd : FuncData} {C CB : Addr} (F : Fun K "look_bill" "look_bill" sLookBill f fd) (T : BadTxt P w K mg base "BadBill" CB "good" "bad bill") (CF : Cal P w K mg base CX0 1 "first_wrong" ["row", "many"] (spFirst K))
    (CG : Cal P w K mg base (L2.CX P w) 4 "goods_of" ["lot"] (spGoods C)) : FnOk P w K mg base (L2.CX P w) 5 f fd ["lot", "bill"] (spLookBill K C CB) := by
  obtain ⟨fF, fdF, GF, gF, kF, bF⟩ := CF.ex
  obtain ⟨fG, fdG, GG, gG, kG, bG⟩ := CG.ex
  obtain ⟨fI, fdI, iC, tI, GI, bI⟩ := T.ini
  refine F.okX scLB (fun vs H Q E h => ?_) (fun cdv A outer s H vs Q E hr h => ?_)
  · obtain ⟨p, b, as, ll, row, rfl, _⟩ := h
    rfl
  · obtain ⟨p, b, as, ll, row, rfl, hL, hB, hz, q1, q2, q3⟩ := h
    refine ⟨_, pss_cons (ps_set (i := 2) scLB.nd rfl (.inl rfl) (pe_call GF (hr.mono (by decide)) (by rfl) gF kF bF .nil pass0 (pa_cons (pv 1) (pa_cons (pe_call GG hr (by rfl) gG kG bG .nil (passes_call (takes_of rfl rfl rfl rfl) (fun _ _ _ _ h => h)) (pa_cons (pv 0) pa_nil)) pa_nil))))
      (pss_one (ps_if (pt_cmpR op_notN (pv 2) pe_non (nomark _)) (pss_one (ps_raise rfl (takes_of rfl rfl rfl rfl) (pmk_oex T.c2.ox iC tI GI (hr.mono (by decide)) bI .nil pass0 (by rfl) T.gC (pa_cons (pv 2) pa_nil)))) pss_nil)), ?_⟩
    refine ⟨.ref b, rfl, .ref p, rfl, p, ll, rfl, hL.1.lot, hL.2.1, hL.2.2, fun ef H1 s1 => ?_, q1⟩
    refine ⟨b, width ll, row, rfl, hB.same s1, hz, fun H2 s2 => ?_⟩
    refine ⟨_, rfl, rfl, _, rfl, ite2 (fun c => ?_) (fun c => ?_)⟩
    · have hn : ¬ wrongV (width ll) row = .non := fun z => by rw [z, decide_eq_true rfl] at c; cases c
      obtain ⟨k, ek, ev⟩ := wrongV_some hn
      refine ⟨_, rfl, ?_⟩
      rw [ev]
      exact mk_refd ((q2 ef k ek).same (s1.trans s2))
    · have hn : wrongV (width ll) row = .non := by
        by_cases z : wrongV (width ll) row = .non
        · exact z
        · rw [decide_eq_false z] at c
          exact absurd rfl c
      exact q3 ef (wrongV_non.mp hn) H2 (s1.trans s2)
end
end HL

set_option pp.maxSteps 3000
namespace HL
open PySem PySem.Spec PyProof.Rows L2
open C8 (pss_cut)
theorem scSp : FnScope ["shares", "hold", "wider", "amount", "many", "more"] ["shares", "hold"] (defScope sSpread) := ⟨rfl, rfl, rfl, by decide +kernel, rfl, by decide +kernel, by decide +kernel⟩
theorem scCh : FnScope ["many", "few", "ways", "step"] ["many", "few"] (defScope sChoices) := ⟨rfl, rfl, rfl, by decide +kernel, rfl, by decide +kernel, by decide +kernel⟩
theorem RgC.up {i j c : Int} (h1 : 0 ≤ i) (h2 : i ≤ 100000) (h3 : 0 ≤ j) (h4 : j ≤ 100000) (h5 : 1 ≤ c) (h6 : c ≤ 60) : RgC i j c (if i < j then (j - i - 1) / c + 1 else 0).toNat := by
  have e : Builtin.Range.rangeSize i j c = ((if i < j then (j - i - 1) / c + 1 else 0).toNat : Int) := by
    unfold Builtin.Range.rangeSize
    rw [if_pos (show c > 0 by omega)]
    by_cases hij : i < j
    · rw [if_pos hij]
      have := Int.ediv_nonneg (show 0 ≤ j - i - 1 by omega) (show 0 ≤ c by omega)
      omega
    · rw [if_neg hij]
      rfl
  have hb : Builtin.Range.rangeSize i j c ≤ 100000 := by
    rw [e]
    by_cases hij : i < j
    · rw [if_pos hij]
      have := Int.ediv_le_self c (show 0 ≤ j - i - 1 by omega)
      omega
    · rw [if_neg hij]
      decide
  have hc : 0 ≤ Builtin.Range.rangeSize i j c := by rw [e]; omega
  refine ⟨by omega, by omega, ?_, e⟩
  unfold Builtin.Range.small
  generalize Builtin.Range.rangeSize i j c = z at hb hc
  have fits : ∀ x : Int, -200000 ≤ x → x ≤ 200000 → Builtin.Range.rangeFitsLong x = true := fun x a b => by
    unfold Builtin.Range.rangeFitsLong
    simp
    omega
  rw [if_pos (show c > 0 by omega), fits i (by omega) (by omega), fits j (by omega) (by omega), fits c (by omega) (by omega), fits z (by omega) (by omega), fits (j + (c - 1)) (by omega) (by omega)]
  simp
/-! ### a list of shares, read at any place -/
def sg (sh : List Int) (j : Int) : Int := if 0 ≤ j then sh.getD j.toNat 0 else 0
theorem sg_nat {sh : List Int} {j : Nat} : sg sh (j : Int) = sh.getD j 0 := by
  unfold sg
  rw [if_pos (by omega), Int.toNat_natCast]
theorem sg_take {sh : List Int} {i : Nat} {v : Int} (h : sh[i]? = some v) (x : Int) : sg (sh.take (i + 1)) x = sg (sh.take i) x + (if x = (i : Int) then v else 0) := by
  unfold sg
  by_cases hx : 0 ≤ x
  · rw [if_pos hx, if_pos hx, List.take_add_one, h, show (some v).toList = [v] from rfl]
    have hil := (List.getElem?_eq_some_iff.mp h).1
    have hl : (sh.take i).length = i := by rw [List.length_take]; omega
    rw [List.getD_eq_getElem?_getD, List.getD_eq_getElem?_getD]
    by_cases e : x = (i : Int)
    · rw [if_pos e, e, Int.toNat_natCast, List.getElem?_append_right (by omega), hl, Nat.sub_self, List.getElem?_eq_none (l := sh.take i) (i := i) (by omega)]
      simp
    · rw [if_neg e]
      by_cases l : x.toNat < i
      · rw [List.getElem?_append_left (by omega)]
        omega
      · rw [List.getElem?_append_right (by omega), hl, List.getElem?_eq_none (show ([v] : List Int).length ≤ x.toNat - i by show 1 ≤ _; omega), List.getElem?_eq_none (l := sh.take i) (i := x.toNat) (by omega)]
        rfl
  · rw [if_neg hx, if_neg hx, if_neg (by omega)]
    rfl
theorem sg_set {w : List Int} {k : Nat} {x : Int} (hk : k < w.length) (j : Int) : sg (w.set k x) j = if j = (k : Int) then x else sg w j := by
  unfold sg
  by_cases hj : 0 ≤ j
  · rw [if_pos hj, if_pos hj, List.getD_eq_getElem?_getD, List.getD_eq_getElem?_getD, List.getElem?_set]
    by_cases e : j = (k : Int)
    · rw [if_pos (show k = j.toNat by omega), if_pos hk, if_pos e]
      rfl
    · rw [if_neg (show ¬ k = j.toNat by omega), if_neg e]
  · rw [if_neg hj, if_neg hj, if_neg (by omega)]
theorem sg_zeros {n : Nat} {j : Int} : sg (List.replicate n 0) j = 0 := by
  unfold sg
  split
  · rw [List.getD_eq_getElem?_getD]
    by_cases h : j.toNat < n
    · rw [List.getElem?_eq_getElem (by rw [List.length_replicate]; exact h), List.getElem_replicate]
      rfl
    · rw [List.getElem?_eq_none (by rw [List.length_replicate]; omega)]
      rfl
  · rfl
theorem sumN_add (f g : Nat → Int) : ∀ n : Nat, sumN (fun t => f t + g t) n = sumN f n + sumN g n
  | 0 => rfl
  | n + 1 => by
    show sumN _ n + (f n + g n) = (sumN f n + f n) + (sumN g n + g n)
    rw [sumN_add f g n]
    omega
theorem atIT {xs : List Int} {i : Nat} (h : i < xs.length) : atI (xs.map V.int) (i : Int) = some (.int (xs.getD i 0)) := atI_nat (by rw [List.getElem?_map, List.getD_eq_getElem?_getD, List.getElem?_eq_getElem h]; rfl)
def ShIs (sh rs : List Int) : Prop := ∀ j : Int, sg sh j = shR rs j
section
variable {P : Program} {w : World} {K : PySem.W.Frag} {mg : Str → Option Value} {base : Heap}
def spSpread : Sp := fun vs H Q _ => ∃ (a : Addr) (sh : List Int) (h : Int), vs = [.ref a, .int h] ∧ H a = some (.lst (sh.map V.int)) ∧ sh.length ≤ 1000 ∧ 1 ≤ h ∧ h ≤ 6 ∧
  ∀ H' l sh', Same H H' → H' l = some (.lst (sh'.map V.int)) → sh'.length = (sh.length + 60 - h.toNat) → (∀ j, sg sh' j = sumN (fun m => sg sh (j - (m : Int) * h)) (60 / h).toNat) → Q (.ref l) H'
theorem ok_spread {f : Addr} {fd : FuncData} {k : Nat} (F : Fun K "spread" "spread" sSpread f fd) (B : Bl mg) (mR : ∃ t, mg "ROUND" = some (.int 60 t)) : FnOk P w K mg base CX0 (k + 1) f fd ["shares", "hold"] spSpread := by
  obtain ⟨tR, mR⟩ := mR
  refine F.ok scSp (fun vs H Q E h => ?_) (fun cdv A outer s H vs Q E hr h => ?_)
  · obtain ⟨a, sh, h, rfl, _⟩ := h
    rfl
  · obtain ⟨a, sh, h, rfl, hA, hz, h1, h6, q⟩ := h
    refine ⟨_, (pss_cons (ps_set (i := 2) scSp.nd rfl (.inl rfl) (pe_op op_rep (pe_lst (pa_cons pe_int pa_nil)) (pe_op op_sub (pe_op op_add (pe_callB call_len_seq (by rfl) B.len PySem.boot_len (pa_cons (pv 0) pa_nil)) (pe_glob (v := .int 60) (by rfl) mR ⟨_, rfl⟩)) (pv 1))))
      (pss_cons (ps_for PassesOwn.never rfl (pi_enum (by rfl) B.enumerate (pa_cons (pv 0) pa_nil)) (pg_tup rfl (pgs_cons (pg_name (i := 3) scSp.nd rfl (.inl rfl)) (pgs_cons (pg_name (i := 4) scSp.nd rfl (.inl rfl)) pgs_nil)))
        (pss_one (ps_for PassesOwn.never rfl (pi_range3 (by rfl) B.range (pa_cons pe_int (pa_cons (pe_glob (v := .int 60) (by rfl) mR ⟨_, rfl⟩) (pa_cons (pv 1) pa_nil)))) (pg_name (i := 5) scSp.nd rfl (.inl rfl))
          (pss_one (ps_augS (pv 2) (pe_op op_add (pv 3) (pv 5)) get_list (pv 4) ip_add set_list)))))
      (pss_one (ps_ret (pv 2))))), ?_⟩
    obtain ⟨h0, q60, eq1, eq2⟩ := dv_six h1 h6
    refine ⟨sz_1 _, fun l0 nl0 => ?_⟩
    have s0 := same_new (o := .lst [.int 0]) nl0
    refine ⟨.ref a, rfl, a, _, rfl, .inl (SqL.of (s0 _ _ hA)), _, 60, rfl, rfl, .int h, rfl, _, h, rfl, rfl, ?_⟩
    rw [List.length_map]
    have en : (((sh.length : Nat) : Int) + 60 - h).toNat = sh.length + 60 - h.toNat := by omega
    refine ⟨l0, _, _, rfl, rfl, upd_same, by omega, by omega, ?_, fun D nD => ?_⟩
    · rw [en]
      show 1 * _ ≤ sizeLine
      exact Nat.le_trans (show _ ≤ 2000 by omega) (by decide)
    rw [en]
    have er : (List.replicate (sh.length + 60 - h.toNat) [V.int 0]).flatten = (List.replicate (sh.length + 60 - h.toNat) (0 : Int)).map V.int := by
      rw [List.map_replicate]
      generalize sh.length + 60 - h.toNat = n
      induction n with
      | zero => rfl
      | succ n ih => rw [List.replicate_succ, List.flatten_cons, ih, List.replicate_succ]; rfl
    rw [er]
    have nD0 : H D = none := s0.free nD
    have sD := s0.trans (same_new (o := .lst ((List.replicate (sh.length + 60 - h.toNat) (0 : Int)).map V.int)) nD)
    refine ⟨.ref a, rfl, a, _, rfl, SqL.of (sD _ _ hA), ?_⟩
    refine for_it (walk_enum (K := K) (a := a) (xs := sh.map V.int)) (fun i σ H' => Same H H' ∧ (∃ y3 y4 y5, σ = [some (.ref a), some (.int h), some (.ref D), y3, y4, y5]) ∧ ∃ W : List Int, H' D = some (.lst (W.map V.int)) ∧ W.length = sh.length + 60 - h.toNat ∧ ∀ j, sg W j = sumN (fun m => sg (sh.take i) (j - (m : Int) * h)) q60)
      ⟨sD, ⟨none, none, none, rfl⟩, _, upd_same, List.length_replicate, fun j => ?_⟩ (fun i σ H' _ hI => SqL.of (hI.1 _ _ hA)) (fun i x σ H' H2 hi hI hY => ?_) (fun σ H' hI => ?_)
    · rw [sg_zeros, sumN_zero fun t _ => by rw [List.take_zero]; unfold sg; split <;> rfl]
    · obtain ⟨sm, ⟨y3, y4, y5, rfl⟩, W, hW, hWl, hWs⟩ := hI
      obtain ⟨T, x1, x2, rfl, nT, rfl, e1, e2⟩ := hY
      cases Option.some.inj e1
      obtain ⟨v, hv, rfl⟩ : ∃ v, sh[i]? = some v ∧ x2 = V.int v := by
        have e2' : (sh.map V.int)[i]? = some x2 := e2
        rw [List.getElem?_map] at e2'
        cases e : sh[i]? with
        | none => rw [e] at e2'; cases e2'
        | some c => rw [e] at e2'; exact ⟨c, rfl, (Option.some.inj e2').symm⟩
      have hil := (List.getElem?_eq_some_iff.mp hv).1
      have sT := same_new (o := .tup [.int (i : Nat), .int v]) nT
      refine ⟨T, _, rfl, SqT.of upd_same, rfl, _, _, rfl, _, _, rfl, rfl, ?_⟩
      refine ⟨.int h, rfl, 0, 60, h, _, rfl, RgC.up (by decide) (by decide) (by decide) (by decide) h1 (by omega), ?_⟩
      have e60 : (if (0 : Int) < 60 then (60 - 0 - 1) / h + 1 else 0).toNat = q60 := by
        rw [if_pos (by decide)]
        have : h = 1 ∨ h = 2 ∨ h = 3 ∨ h = 4 ∨ h = 5 ∨ h = 6 := by omega
        rcases this with e | e | e | e | e | e <;> (subst e; rw [← eq1]; decide)
      rw [e60]
      refine for_it (walk_rangeC (lo := 0) (c := h) (n := q60)) (fun m' σ H3 => Same H H3 ∧ (∃ y5, σ = [some (.ref a), some (.int h), some (.ref D), some (.int (i : Nat)), some (.int v), y5]) ∧ ∃ W' : List Int, H3 D = some (.lst (W'.map V.int)) ∧ W'.length = sh.length + 60 - h.toNat ∧ ∀ j, sg W' j = sg W j + sumN (fun m => if j = (i : Int) + (m : Int) * h then v else 0) m')
        ⟨sm.trans sT, ⟨_, rfl⟩, W, sT _ _ hW, hWl, fun j => by show _ = _ + 0; omega⟩ (fun _ _ _ _ _ => True.intro) (fun m' x σ H3 H4 hm hI hY => ?_) (fun σ H3 hI => ?_)
      · obtain ⟨sm3, ⟨y5', rfl⟩, W', hW', hWl', hWs'⟩ := hI
        obtain ⟨rfl, rfl⟩ := hY
        have ez : (0 : Int) + (m' : Nat) * h = (m' : Int) * h := by omega
        have hmh : 0 ≤ (m' : Int) * h := Int.mul_nonneg (by omega) (by omega)
        have hmu : ((m' : Int) + 1) * h ≤ 60 := by
          rw [← eq2]
          exact Int.mul_le_mul (by omega) (Int.le_refl _) (by omega) (by omega)
        rw [Int.add_mul, Int.one_mul] at hmu
        show gName 5 (V.int (0 + (m' : Int) * h)) _ _ _
        rw [ez]
        refine ⟨.ref D, rfl, .int (i : Nat), rfl, .int ((m' : Int) * h), rfl, _, _, rfl, rfl, ?_⟩
        have hk : ((i : Nat) : Int) + (m' : Int) * h = (((i : Int) + (m' : Int) * h).toNat : Int) := by omega
        have hkl : ((i : Int) + (m' : Int) * h).toNat < W'.length := by omega
        generalize ((i : Int) + (m' : Int) * h).toNat = kk at hk hkl
        refine ⟨D, _, (i : Int) + (m' : Int) * h, .int (W'.getD kk 0), rfl, rfl, SqL.of hW', by omega, by rw [hk]; exact atIT hkl, .int v, rfl, _, v, rfl, rfl, ?_⟩
        refine ⟨D, _, (i : Int) + (m' : Int) * h, kk, rfl, rfl, hW', ?_, ?_⟩
        · rw [hk]
          unfold ixN
          rw [if_pos (by omega), List.length_map, if_pos (by omega), Int.toNat_natCast]
        refine ⟨same_late sm3 nD0, ⟨_, rfl⟩, W'.set kk (W'.getD kk 0 + v), by rw [upd_same, List.map_set], by rw [List.length_set]; exact hWl', fun j => ?_⟩
        rw [sg_set hkl]
        show _ = sg W j + (sumN _ m' + (if j = (i : Int) + (m' : Int) * h then v else 0))
        have hj := hWs' j
        by_cases e : j = (kk : Int)
        · rw [if_pos e, if_pos (by rw [hk]; exact e)]
          rw [e, sg_nat] at hj
          rw [hj, e]
          omega
        · rw [if_neg e, if_neg (by rw [hk]; exact e), hj]
          omega
      · obtain ⟨sm3, ⟨y5', rfl⟩, W', hW', hWl', hWs'⟩ := hI
        refine ⟨sm3, ⟨_, _, _, rfl⟩, W', hW', hWl', fun j => ?_⟩
        rw [hWs' j, hWs j, ← sumN_add]
        refine sumN_same fun m _ => ?_
        rw [sg_take hv]
        have : (j = (i : Int) + (m : Int) * h) ↔ j - (m : Int) * h = (i : Int) := by omega
        by_cases e : j = (i : Int) + (m : Int) * h
        · rw [if_pos e, if_pos (this.mp e)]
        · rw [if_neg e, if_neg fun z => e (this.mpr z)]
    · obtain ⟨sm, ⟨y3, y4, y5, rfl⟩, W, hW, hWl, hWs⟩ := hI
      rw [List.length_map, List.take_length] at hWs
      exact ⟨.ref D, rfl, q H' D W sm hW hWl fun j => by rw [eq1]; exact hWs j⟩
end
end HL

set_option pp.maxSteps 3000
namespace HL
open PySem PySem.Spec PyProof.Rows L2
open C8 (pss_cut)
theorem scH1 : FnScope ["lot", "amount", "shares", "hold", "told", "start", "rounds"] ["lot", "amount"] (defScope sHM1) := ⟨rfl, rfl, rfl, by decide +kernel, rfl, by decide +kernel, by decide +kernel⟩
theorem ch_le : ∀ n k : Nat, ch n k ≤ (n + 1) ^ k
  | n, 0 => by rw [ch_zero]; simp
  | 0, k + 1 => by
    show 0 ≤ _
    exact Nat.zero_le _
  | n + 1, k + 1 => by
    show ch n k + ch n (k + 1) ≤ _
    have h1 := ch_le n k
    have h2 := ch_le n (k + 1)
    have h3 : (n + 1) ^ k ≤ (n + 2) ^ k := Nat.pow_le_pow_left (by omega) _
    rw [Nat.pow_succ] at h2
    have h4 : (n + 1) ^ k * (n + 1) ≤ (n + 2) ^ k * (n + 1) := Nat.mul_le_mul_right _ h3
    have h5 : (n + 1 + 1) ^ (k + 1) = (n + 2) ^ k * (n + 1) + (n + 2) ^ k := by
      rw [Nat.pow_succ, ← Nat.mul_succ]
    rw [h5]
    omega
abbrev E31 : Nat := 10000000000000000000000000000000
theorem ch_log {n k : Nat} (hn : n < E31) (hk : k ≤ 4) : ch n k < 2 ^ 500 := by
  have h1 := ch_le n k
  have h2 : (n + 1) ^ k ≤ E31 ^ k := Nat.pow_le_pow_left (by omega) _
  have h3 : E31 ^ k ≤ E31 ^ 4 := Nat.pow_le_pow_right (by decide) hk
  have h4 : E31 ^ 4 < 2 ^ 500 := by decide
  omega
theorem log_lt {x : Nat} (h : x < 2 ^ 500) : x.log2 < 500 := by
  by_cases e : x = 0
  · subst e
    decide
  · exact (Nat.log2_lt e).mpr h
section
variable {P : Program} {w : World} {K : PySem.W.Frag} {mg : Str → Option Value} {base : Heap}
def spChoices : Sp := fun vs H Q _ => ∃ (n k : Nat), vs = [.int (n : Int), .int (k : Int)] ∧ n < E31 ∧ k ≤ 4 ∧ ∀ H', Same H H' → Q (.int (ch n k : Nat)) H'
theorem ok_choices {f : Addr} {fd : FuncData} {k : Nat} (F : Fun K "choices" "choices" sChoices f fd) (B : Bl mg) : FnOk P w K mg base CX0 (k + 1) f fd ["many", "few"] spChoices := by
  refine F.ok scCh (fun vs H Q E h => ?_) (fun cdv A outer s H vs Q E hr h => ?_)
  · obtain ⟨n, k, rfl, _⟩ := h
    rfl
  · obtain ⟨n, k, rfl, hn, hk, q⟩ := h
    refine ⟨_, (pss_cons (ps_set (i := 2) scCh.nd rfl (.inl rfl) pe_int)
      (pss_cons (ps_for PassesOwn.never rfl (pi_range1 (by rfl) B.range (pa_cons (pv 1) pa_nil)) (pg_name (i := 3) scCh.nd rfl (.inl rfl))
        (pss_one (ps_set (i := 2) scCh.nd rfl (.inl rfl) (pe_op op_fdiv (pe_op op_mulW (pv 2) (pe_op op_sub (pv 0) (pv 3))) (pe_op op_add (pv 3) pe_int)))))
      (pss_one (ps_ret (pv 2))))), ?_⟩
    refine ⟨.int k, rfl, (k : Int), rfl, by omega, by omega, ?_⟩
    refine for_range (lo := 0) (n := ((k : Nat) : Int).toNat) (fun i σ H' => H' = H ∧ ∃ y3, σ = [some (.int (n : Int)), some (.int (k : Int)), some (.int (ch n i : Nat)), y3]) ⟨rfl, none, by rw [ch_zero]; rfl⟩ (fun i σ H' hi hI => ?_) (fun σ H' hI => ?_)
    · obtain ⟨rfl, y3, rfl⟩ := hI
      have ez : (0 : Int) + (i : Nat) = ((i : Nat) : Int) := by omega
      rw [ez]
      have hik : i ≤ 4 := by omega
      have l1 := log_lt (ch_log hn hik)
      have l2 : ((n : Int) - (i : Int)).natAbs.log2 < 500 := by
        refine log_lt ?_
        have hE : 4 < E31 := by decide
        have : ((n : Int) - (i : Int)).natAbs ≤ E31 := by omega
        have h4 : E31 < 2 ^ 500 := by decide
        omega
      refine ⟨.int (ch n i : Nat), rfl, .int n, rfl, .int i, rfl, _, _, rfl, rfl, _, _, rfl, rfl, ?_, .int i, rfl, _, 1, rfl, rfl, _, _, rfl, rfl, ⟨by omega, by omega⟩, ?_⟩
      · show ((ch n i : Nat) : Int).natAbs.log2 + _ < 1000000
        rw [Int.natAbs_natCast]
        omega
      have ev : ((ch n i : Nat) : Int) * ((n : Int) - (i : Int)) / ((i : Int) + 1) = ((ch n (i + 1) : Nat) : Int) := by rw [← ch_step n i, Int.mul_ediv_cancel _ (by omega)]
      refine ⟨rfl, some (.int (i : Int)), ?_⟩
      show [_, _, some (V.int (((ch n i : Nat) : Int) * ((n : Int) - (i : Int)) / ((i : Int) + 1))), _] = _
      rw [ev]
    · obtain ⟨rfl, y3, rfl⟩ := hI
      rw [Int.toNat_natCast]
      exact ⟨_, rfl, q _ (Same.refl _)⟩
end
theorem sumN_bd {f : Nat → Int} {c : Int} : ∀ {n : Nat}, (∀ t, 0 ≤ f t ∧ f t ≤ c) → 0 ≤ sumN f n ∧ sumN f n ≤ (n : Int) * c
  | 0, _ => by
    show (0 : Int) ≤ 0 ∧ (0 : Int) ≤ ((0 : Nat) : Int) * c
    simp
  | n + 1, h => by
    obtain ⟨h1, h2⟩ := sumN_bd (n := n) h
    have h3 := h n
    show 0 ≤ sumN f n + f n ∧ sumN f n + f n ≤ ((n + 1 : Nat) : Int) * c
    rw [Int.natCast_add, Int.add_mul]
    omega
theorem shR_bd : ∀ {rs : List Int} {j : Int}, (∀ h ∈ rs, Dv h) → 0 ≤ shR rs j ∧ shR rs j ≤ (60 : Int) ^ rs.length
  | [], j, _ => by
    unfold shR
    split <;> decide
  | h :: rs, j, hd => by
    have hh := hd h List.mem_cons_self
    obtain ⟨h0, q, e, eq⟩ := hh
    have b := sumN_bd (f := fun m : Nat => shR rs (j - (m : Int) * h)) (c := (60 : Int) ^ rs.length) (n := (60 / h).toNat) fun t => shR_bd fun x hx => hd x (List.mem_cons_of_mem _ hx)
    refine ⟨b.1, Int.le_trans b.2 ?_⟩
    rw [e, List.length_cons, Int.pow_succ, Int.mul_comm]
    have : (q : Int) ≤ 60 := by
      have : (q : Int) * 1 ≤ (q : Int) * h := Int.mul_le_mul_of_nonneg_left (by omega) (by omega)
      omega
    exact Int.mul_le_mul_of_nonneg_left this (Int.pow_nonneg (by decide))
theorem sumN_rev (f : Nat → Int) : ∀ n : Nat, sumN f n = sumN (fun u => f (n - 1 - u)) n
  | 0 => rfl
  | n + 1 => by
    show sumN f n + f n = _
    rw [sumN_shift, sumN_rev f n]
    have : sumN (fun t => f (n + 1 - 1 - (t + 1))) n = sumN (fun u => f (n - 1 - u)) n := sumN_same fun t ht => by
      congr 1
      omega
    rw [this]
    show _ = f (n + 1 - 1 - 0) + _
    simp
    omega
/-- what the loop over the starts adds up -/
def toldN (sh : List Int) (a : Int) (L n : Nat) : Int := sumN (fun u => sg sh (a % 60 + 60 * (u : Int)) * (ch ((a / 60 - (u : Int)).toNat + (L - 1)) (L - 1) : Nat)) n
def startsN (a len : Int) : Nat := (if a % 60 < (if a + 1 < len then a + 1 else len) then ((if a + 1 < len then a + 1 else len) - a % 60 - 1) / 60 + 1 else 0).toNat
theorem told_cnt {sh hs : List Int} {a : Int} (h1 : 1 ≤ hs.length) (hd : ∀ h ∈ hs, Dv h) (hs' : ShIs sh hs.reverse) (ha : 0 ≤ a) : toldN sh a hs.length (startsN a sh.length) = (cnt (ones hs) [a] : Nat) := by
  have hdr : ∀ h ∈ hs.reverse, Dv h := fun h hh => hd h (List.mem_reverse.mp hh)
  have g := GQ_cnt (rs := hs.reverse) (a := a) (N := (a / 60).toNat + 1) hdr (by omega)
  rw [List.reverse_reverse] at g
  rw [← g]
  unfold GQ
  rw [sumN_rev, List.length_reverse]
  have hn : startsN a sh.length ≤ (a / 60).toNat + 1 := by
    unfold startsN
    split <;> split <;> omega
  have em := sumN_more (f := fun u : Nat => sg sh (a % 60 + 60 * (u : Int)) * (ch ((a / 60 - (u : Int)).toNat + (hs.length - 1)) (hs.length - 1) : Nat)) hn fun t t1 t2 => ?_
  · unfold toldN
    rw [← em]
    refine sumN_same fun u hu => ?_
    have e1 : a - 60 * (((a / 60).toNat + 1 - 1 - u : Nat) : Int) = a % 60 + 60 * (u : Int) := by omega
    rw [e1, ← hs']
    congr 1
    obtain ⟨L, hL⟩ : ∃ L, hs.length = L + 1 := ⟨hs.length - 1, by omega⟩
    rw [hL]
    show ((ch _ (L + 1 - 1) : Nat) : Int) = ((ch ((a / 60).toNat + 1 - 1 - u + L) L : Nat) : Int)
    have e2 : (a / 60 - (u : Int)).toNat + (L + 1 - 1) = (a / 60).toNat + 1 - 1 - u + L := by omega
    rw [e2]
    rfl
  · have : sg sh (a % 60 + 60 * (t : Int)) = 0 := by
      unfold sg
      rw [if_pos (by omega), List.getD_eq_getElem?_getD, List.getElem?_eq_none]
      · rfl
      · unfold startsN at t1
        split at t1 <;> split at t1 <;> omega
    rw [this, Int.zero_mul]
end HL

set_option pp.maxSteps 3000
namespace HL
open PySem PySem.Spec PyProof.Rows L2
open C8 (pss_cut)
theorem okRow_all {ll : List (List Int)} (h : flaw ll = none) : ∀ r ∈ ll, okRow (width ll) r = true := fun r hr => by
  have h0 := flaw_ok h
  unfold flaw at h
  rw [if_pos ⟨h0.1, h0.2.1, h0.2.2.1, h0.2.2.2⟩] at h
  unfold flawIn at h
  have e : ll.findIdx? (fun r => !okRow (width ll) r) = none := by
    cases z : ll.findIdx? (fun r => !okRow (width ll) r) with
    | none => rfl
    | some i => rw [z] at h; cases h
  have := List.findIdx?_eq_none_iff.mp e r hr
  cases z : okRow (width ll) r with
  | true => rfl
  | false => rw [z] at this; cases this
theorem ones_of {ll : List (List Int)} (ef : flaw ll = none) (hw : width ll = 1) : ∃ hs : List Int, ll = ones hs ∧ hs.length = ll.length ∧ ∀ h ∈ hs, 1 ≤ h ∧ h ≤ 6 := by
  have key : ∀ l : List (List Int), (∀ r ∈ l, okRow 1 r = true) → ∃ hs : List Int, l = ones hs ∧ hs.length = l.length ∧ ∀ h ∈ hs, 1 ≤ h ∧ h ≤ 6 := by
    intro l
    induction l with
    | nil => exact fun _ => ⟨[], rfl, rfl, fun h hh => by cases hh⟩
    | cons r l ih =>
      intro h
      obtain ⟨hs, e1, e2, e3⟩ := ih fun x hx => h x (List.mem_cons_of_mem _ hx)
      obtain ⟨k1, k2, n, k3, k4⟩ := okRow_iff.mp (h r List.mem_cons_self)
      match r, k1, k2, k3 with
      | [x], _, k2, k3 =>
        refine ⟨x :: hs, by rw [e1]; rfl, by rw [List.length_cons, List.length_cons, e2], fun y hy => ?_⟩
        rcases List.mem_cons.mp hy with e | e
        · rw [e]
          have := k2 x List.mem_cons_self
          rw [List.mem_singleton.mp k3] at k4
          omega
        · exact e3 y e
  refine key ll fun r hr => ?_
  have := okRow_all ef r hr
  rw [hw] at this
  exact this
section
variable {P : Program} {w : World} {K : PySem.W.Frag} {mg : Str → Option Value} {base : Heap}
def spHM1 (C CB CO : Addr) : Sp := fun vs H Q E => ∃ (p : Addr) (as : List Addr) (ll : List (List Int)) (a : Int), vs = [.ref p, .int a] ∧ LotB H p as ll ∧
  (∀ k, flaw ll = some k → Refd C "kind" "bad lot" (.int k) H E) ∧ (flaw ll = none → width ll ≠ 1 → RefW CO "other goods" H E) ∧ (flaw ll = none → width ll = 1 → ∀ k, wrong (width ll) [a] = some k → Refd CB "good" "bad bill" (.int k) H E) ∧
  (flaw ll = none → width ll = 1 → wrong (width ll) [a] = none → ∀ H', Same H H' → Q (.int (cnt ll [a] : Nat)) H')
theorem ok_hm1 {f : Addr} {fd : FuncData} {C CB CO : Addr} (F : Fun K "how_many_of_one" "how_many_of_one" sHM1 f fd) (B : Bl mg) (mR : ∃ t, mg "ROUND" = some (.int 60 t)) (TO : BadTxt1 P w K mg base "OtherGoods" CO "other goods")
    (CG : Cal P w K mg base (L2.CX P w) 4 "goods_of" ["lot"] (spGoods C)) (CL : Cal P w K mg base (L2.CX P w) 5 "look_bill" ["lot", "bill"] (spLookBill K C CB)) (CS : Cal P w K mg base CX0 1 "spread" ["shares", "hold"] spSpread) (CC : Cal P w K mg base CX0 1 "choices" ["many", "few"] spChoices) :
    FnOk P w K mg base (L2.CX P w) 6 f fd ["lot", "amount"] (spHM1 C CB CO) := by
  obtain ⟨tR, mR⟩ := mR
  obtain ⟨fI, fdI, iC, tI, GI, bI⟩ := TO.ini
  obtain ⟨fG, fdG, GG, gG, kG, bG⟩ := CG.ex
  obtain ⟨fL, fdL, GL, gL, kL, bL⟩ := CL.ex
  obtain ⟨fS, fdS, GS, gS, kS, bS⟩ := CS.ex
  obtain ⟨fC, fdC, GC, gC, kC, bC⟩ := CC.ex
  refine F.okX scH1 (fun vs H Q E h => ?_) (fun cdv A outer s H vs Q E hr h => ?_)
  · obtain ⟨p, as, ll, a, rfl, _⟩ := h
    rfl
  · obtain ⟨p, as, ll, a, rfl, hL, q1, q2, q3, q4⟩ := h
    refine ⟨_, (pss_cons (ps_if (pt_cmpR op_ne (pe_call GG (hr.mono (by decide)) (by rfl) gG kG bG .nil (passes_call (takes_of rfl rfl rfl rfl) (fun _ _ _ _ h => h)) (pa_cons (pv 0) pa_nil)) pe_int (nomark _)) (pss_one (ps_raise rfl (takes_of rfl rfl rfl rfl) (pmk_oexB0 PySem.F.excBase_ValueError TO.c1.ox iC tI GI (hr.mono (by decide)) bI pass0 (by rfl) TO.gC))) pss_nil)
      (pss_cons (ps_expr (pe_call GL hr (by rfl) gL kL bL .nil (passes_call (takes_of rfl rfl rfl rfl) (fun _ _ _ _ h => h)) (pa_cons (pv 0) (pa_cons (pe_tup (pa_cons (pv 1) pa_nil)) pa_nil))))
      (pss_cons (ps_set (i := 2) scH1.nd rfl (.inl rfl) (pe_lst (pa_cons pe_int pa_nil)))
      (pss_cut (ps_for (passes_of rfl) rfl (pi_tup (pv 0)) (pg_name (i := 3) scH1.nd rfl (.inl rfl))
        (pss_one (ps_set (i := 2) scH1.nd rfl (.inl rfl) (pe_call GS (hr.mono (by decide)) (by rfl) gS kS bS .nil pass0 (pa_cons (pv 2) (pa_cons (pe_ix ix_tup (pv 3) pe_int (fun _ _ => rfl)) pa_nil))))))
      (pss_cons (ps_set (i := 4) scH1.nd rfl (.inl rfl) pe_int)
      (pss_cons (ps_for (passes_of rfl) rfl (pi_range3 (by rfl) B.range (pa_cons (pe_op op_mod (pv 1) (pe_glob (v := .int 60) (by rfl) mR ⟨_, rfl⟩)) (pa_cons (pe_callB (call_min2 rfl) (by rfl) B.min (by decide +kernel) (pa_cons (pe_callB call_len_seq (by rfl) B.len PySem.boot_len (pa_cons (pv 2) pa_nil)) (pa_cons (pe_op op_add (pv 1) pe_int) pa_nil))) (pa_cons (pe_glob (v := .int 60) (by rfl) mR ⟨_, rfl⟩) pa_nil)))) (pg_name (i := 5) scH1.nd rfl (.inl rfl))
        (pss_cons (ps_set (i := 6) scH1.nd rfl (.inl rfl) (pe_op op_fdiv (pe_op op_sub (pv 1) (pv 5)) (pe_glob (v := .int 60) (by rfl) mR ⟨_, rfl⟩)))
        (pss_one (ps_aug (i := 4) scH1.nd rfl (.inl rfl) (pe_op op_mul (pe_ix ix_list (pv 2) (pv 5) (fun _ _ => rfl)) (pe_call GC (hr.mono (by decide)) (by rfl) gC kC bC .nil pass0 (pa_cons (pe_op op_sub (pe_op op_add (pv 6) (pe_callB call_len_seq (by rfl) B.len PySem.boot_len (pa_cons (pv 0) pa_nil))) pe_int) (pa_cons (pe_op op_sub (pe_callB call_len_seq (by rfl) B.len PySem.boot_len (pa_cons (pv 0) pa_nil)) pe_int) pa_nil)))) ip_add))))
      (pss_one (ps_ret (pv 4))))))))), ?_⟩
    refine ⟨.ref p, rfl, p, ll, rfl, hL.1.lot, hL.2.1, hL.2.2, fun ef H1 s1 => ?_, q1⟩
    have hok := flaw_ok ef
    refine ⟨rfl, _, rfl, ite2 (fun c1 => ?_) (fun c1 => ?_)⟩
    · have hw : width ll ≠ 1 := fun e => by
        rw [e] at c1
        exact absurd c1 (by decide)
      exact mk_ref1 ((q2 ef hw).same s1)
    have hw : width ll = 1 := by
      by_cases e : width ll = 1
      · exact e
      · rw [decide_eq_false (fun z => e (by have := V.int.inj z; omega))] at c1
        exact absurd rfl c1
    obtain ⟨hs, ell, hsl, hsb⟩ := ones_of ef hw
    refine ⟨.ref p, rfl, .int a, rfl, sz_1 _, fun t nt => ?_⟩
    have st := s1.trans (same_new (o := .tup [.int a]) nt)
    have ht : IntsAt (upd H1 t (.tup [.int a])) t [a] := upd_same
    refine ⟨p, t, as, ll, [a], rfl, hL.same st, ht.it, (by show 1 ≤ 100; decide), fun k hk => (by rw [ef] at hk; cases hk), fun _ k hk => (q3 ef hw k hk).same st, fun _ ew H2 s2 => ?_⟩
    have ew' := ew
    rw [hw] at ew'
    have ha : 0 ≤ a ∧ a < G30 := by
      have := (wrong_ok ew').2 a List.mem_cons_self
      exact this
    have ha2 : a < 1000000000000000000000000000000 := ha.2
    have s02 := st.trans s2
    have R2 := hL.1.same s02
    have hal := R2.2.len
    refine ⟨sz_1 _, fun l0 nl0 => ?_⟩
    have sl := s02.trans (same_new (o := .lst [.int 1]) nl0)
    -- the shares
    refine ⟨fun σ' H' => Same H H' ∧ ∃ (l : Addr) (sh : List Int) (y3 : Option V), σ' = [some (.ref p), some (.int a), some (.ref l), y3, none, none, none] ∧ H' l = some (.lst (sh.map V.int)) ∧ sh.length ≤ 300 ∧ ShIs sh hs.reverse, ?_, ?_⟩
    · refine ⟨.ref p, rfl, p, rfl, ⟨_, SqT.of (hL.1.same sl).1⟩, ?_⟩
      refine for_it (walk_tup (K := K) (a := p) (xs := as.map V.ref)) (fun i σ H' => Same H H' ∧ ∃ (l : Addr) (sh : List Int) (y3 : Option V), σ = [some (.ref p), some (.int a), some (.ref l), y3, none, none, none] ∧ H' l = some (.lst (sh.map V.int)) ∧ sh.length ≤ 1 + 59 * i ∧ ShIs sh (hs.take i).reverse)
        ⟨sl, l0, [1], none, rfl, upd_same, Nat.le_refl _, fun j => ?_⟩ (fun i σ H' _ hI => SqT.of (hL.1.same hI.1).1) (fun i x σ H3 H' hi hI hY => ?_) (fun σ H' hI => ?_)
      · unfold sg
        show _ = if j = 0 then 1 else 0
        by_cases e : j = 0
        · rw [e]; rfl
        · rw [if_neg e]
          split
          · rw [List.getD_eq_getElem?_getD, List.getElem?_eq_none (show ([1] : List Int).length ≤ j.toNat by show 1 ≤ _; omega)]
            rfl
          · rfl
      · obtain ⟨sm, l, sh, y3, eσ, hl, hsz, hsh⟩ := hI
        obtain ⟨eY, hx⟩ := hY
        subst eY eσ
        obtain ⟨rb, hrb, rfl⟩ : ∃ c, as[i]? = some c ∧ x = V.ref c := by
          rw [List.getElem?_map] at hx
          cases e : as[i]? with
          | none => rw [e] at hx; cases hx
          | some c => rw [e] at hx; exact ⟨c, rfl, (Option.some.inj hx).symm⟩
        obtain ⟨r, hr1, hr2⟩ := (hL.1.same sm).2.at hrb
        obtain ⟨h, hh, rfl⟩ : ∃ h, hs[i]? = some h ∧ r = [h] := by
          rw [ell, List.getElem?_map] at hr1
          cases e : hs[i]? with
          | none => rw [e] at hr1; cases hr1
          | some c => rw [e] at hr1; exact ⟨c, rfl, (Option.some.inj hr1).symm⟩
        obtain ⟨k1, k6⟩ := hsb h (List.mem_of_getElem? hh)
        have hil : i < 5 := by
          have := (List.getElem?_eq_some_iff.mp hh).1
          omega
        refine ⟨.ref l, rfl, .ref rb, rfl, rb, _, 0, .int h, rfl, rfl, SqT.of hr2, rfl, l, sh, h, rfl, hl, by omega, k1, k6, fun H4 l' sh' s4 hl' hlen' hsg => ?_⟩
        refine ⟨sm.trans s4, l', sh', _, rfl, hl', by omega, fun j => ?_⟩
        have et : (hs.take (i + 1)).reverse = h :: (hs.take i).reverse := by rw [List.take_add_one, hh, List.reverse_append]; rfl
        rw [et, hsg j]
        show _ = sumN (fun m => shR (hs.take i).reverse (j - (m : Int) * h)) (60 / h).toNat
        exact sumN_same fun m _ => hsh _
      · obtain ⟨sm, l, sh, y3, eσ, hl, hsz, hsh⟩ := hI
        rw [List.length_map] at hsz hsh
        rw [List.take_of_length_le (by omega)] at hsh
        exact ⟨sm, l, sh, y3, eσ, hl, by omega, hsh⟩
    rintro σ' H3 ⟨s3, l, sh, y3, rfl, hl, hsz, hsh⟩
    have hm60 := Int.emod_nonneg a (show (60 : Int) ≠ 0 by decide)
    have hm60' := Int.emod_lt_of_pos a (show (0 : Int) < 60 by decide)
    have hdv : ∀ h ∈ hs, Dv h := fun h hh => dv_six (hsb h hh).1 (hsb h hh).2
    refine ⟨.int a, rfl, a, 60, rfl, rfl, (show (0 : Int) < 60 by decide), .ref l, rfl, l, _, rfl, .inl (SqL.of hl), .int a, rfl, a, 1, rfl, rfl, _, _, rfl, ?_⟩
    rw [List.length_map]
    have hmin : 0 ≤ (if a + 1 < (sh.length : Int) then a + 1 else (sh.length : Int)) ∧ (if a + 1 < (sh.length : Int) then a + 1 else (sh.length : Int)) ≤ 300 := by split <;> omega
    refine ⟨_, _, 60, _, rfl, RgC.up hm60 (by omega) hmin.1 (by omega) (by decide) (by decide), ?_⟩
    refine for_it (walk_rangeC (lo := a % 60) (c := 60) (n := startsN a sh.length)) (fun i σ H' => Same H H' ∧ H' l = some (.lst (sh.map V.int)) ∧ ∃ y3 y5 y6, σ = [some (.ref p), some (.int a), some (.ref l), y3, some (.int (toldN sh a hs.length i)), y5, y6])
      ⟨s3, hl, _, _, _, rfl⟩ (fun _ _ _ _ _ => True.intro) (fun i x σ H' H4 hi hI hY => ?_) (fun σ H' hI => ?_)
    · obtain ⟨sm, hl4, z3, z5, z6, rfl⟩ := hI
      obtain ⟨rfl, rfl⟩ := hY
      show gName 5 (V.int (a % 60 + (i : Int) * 60)) _ _ _
      have ez : a % 60 + (i : Int) * 60 = a % 60 + 60 * (i : Int) := by omega
      rw [ez]
      have hil : a % 60 + 60 * (i : Int) < sh.length ∧ a % 60 + 60 * (i : Int) ≤ a := by
        unfold startsN at hi
        split at hi <;> split at hi <;> omega
      refine ⟨.int a, rfl, .int (a % 60 + 60 * (i : Int)), rfl, _, _, rfl, rfl, _, 60, rfl, rfl, ⟨by decide, by decide⟩, ?_⟩
      have er : (a - (a % 60 + 60 * (i : Int))) / 60 = a / 60 - (i : Int) := by omega
      have hk : a % 60 + 60 * (i : Int) = ((a % 60 + 60 * (i : Int)).toNat : Int) := by omega
      have hkl : (a % 60 + 60 * (i : Int)).toNat < sh.length := by omega
      have hsd : sh.getD (a % 60 + 60 * (i : Int)).toNat 0 = sg sh (a % 60 + 60 * (i : Int)) := by
        unfold sg
        rw [if_pos (by omega)]
      have hbd := shR_bd (rs := hs.reverse) (j := a % 60 + 60 * (i : Int)) fun h hh => hdv h (List.mem_reverse.mp hh)
      rw [← hsh] at hbd
      have h60 : (60 : Int) ^ hs.reverse.length ≤ 60 ^ 5 := by
        rw [List.length_reverse]
        have : hs.length ≤ 5 := by omega
        generalize hs.length = n at this ⊢
        have : n = 0 ∨ n = 1 ∨ n = 2 ∨ n = 3 ∨ n = 4 ∨ n = 5 := by omega
        rcases this with e | e | e | e | e | e <;> (subst e; decide)
      have e605 : (60 : Int) ^ 5 = 777600000 := by decide
      have RH := (hL.1.same sm)
      refine ⟨.int (toldN sh a hs.length i), rfl, .ref l, rfl, .int (a % 60 + 60 * (i : Int)), rfl, l, _, _, .int (sg sh (a % 60 + 60 * (i : Int))), rfl, rfl, SqL.of hl4, by rw [← hsd]; have h := atIT (xs := sh) hkl; rw [← hk] at h; exact h, ?_⟩
      refine ⟨_, rfl, .ref p, rfl, p, _, rfl, .inr (SqT.of RH.1), _, _, rfl, rfl, _, 1, rfl, rfl, .ref p, rfl, p, _, rfl, .inr (SqT.of RH.1), _, 1, rfl, rfl, ?_⟩
      rw [List.length_map, hal]
      refine ⟨(a / 60 - (i : Int)).toNat + (hs.length - 1), hs.length - 1, ?_, ?_, by omega, fun H5 s5 => ?_⟩
      · show [V.int ((a - (a % 60 + 60 * (i : Int))) / 60 + (ll.length : Int) - 1), V.int ((ll.length : Int) - 1)] = _
        rw [er]
        have e1 : a / 60 - (i : Int) + (ll.length : Int) - 1 = (((a / 60 - (i : Int)).toNat + (hs.length - 1) : Nat) : Int) := by omega
        have e2 : (ll.length : Int) - 1 = ((hs.length - 1 : Nat) : Int) := by omega
        rw [e1, e2]
      · show _ < 10000000000000000000000000000000
        omega
      refine ⟨_, _, rfl, rfl, .inl ⟨by omega, by omega⟩, ?_⟩
      refine ⟨_, _, rfl, rfl, sm.trans s5, s5 _ _ hl4, _, _, _, rfl⟩
    · obtain ⟨sm, hl4, z3, z5, z6, rfl⟩ := hI
      refine ⟨_, rfl, ?_⟩
      have := q4 ef hw ew H' sm
      rw [told_cnt (by omega) hdv hsh ha.1, ← ell]
      exact this
end
end HL

set_option pp.maxSteps 3000
namespace HL
open PySem PySem.Spec PyProof.Rows L2
open C8 (pss_cut)
theorem scTa : FnScope ["_law_mlot", "_law_top", "_law_found", "_law_hold_here", "_law_mamount"] ["_law_mlot", "_law_top"] (defScope sTable) := ⟨rfl, rfl, rfl, by decide +kernel, rfl, by decide +kernel, by decide +kernel⟩
/-! ### kinds alike -/
theorem Bm_zero (n : Nat) : Bm n 0 = 1 := by
  cases n with
  | zero => rfl
  | succ n =>
    show ((ch (0 + n) n : Nat) : Int) = 1
    rw [Nat.zero_add, ch_self]
    rfl
theorem Bm_step (n t : Nat) : Bm (n + 1) (t + 1) = Bm (n + 1) t + Bm n (t + 1) := Ym_step n (t + 1)
theorem cnt_alike {h : Int} (h0 : 0 < h) : ∀ (n : Nat) (a : Int), 0 ≤ a → (cnt (ones (List.replicate n h)) [a] : Int) = if a % h = 0 then Bm n (a / h).toNat else 0
  | 0, a, ha => by
    show ((cnt [] [a] : Nat) : Int) = _
    unfold cnt
    by_cases e : a = 0
    · subst e
      simp [zeroB, Bm]
    · by_cases d : a % h = 0
      · have : 0 < a / h := by
          have := Int.mul_ediv_add_emod a h
          rw [d] at this
          by_cases z : 0 < a / h
          · exact z
          · have : h * (a / h) ≤ 0 := Int.mul_nonpos_of_nonneg_of_nonpos (by omega) (by omega)
            omega
        obtain ⟨k, hk⟩ : ∃ k, (a / h).toNat = k + 1 := ⟨(a / h).toNat - 1, by omega⟩
        rw [if_pos d, hk]
        simp [zeroB, e]
        rfl
      · rw [if_neg d]
        simp [zeroB, e]
  | n + 1, a, ha => by
    have hp : ∀ x ∈ List.replicate (n + 1) h, 0 < x := fun x hx => by rw [List.eq_of_mem_replicate hx]; exact h0
    have main : ∀ (m : Nat) (a : Int), 0 ≤ a → a < (m : Int) → (cnt (ones (List.replicate (n + 1) h)) [a] : Int) = if a % h = 0 then Bm (n + 1) (a / h).toNat else 0 := by
      intro m
      induction m with
      | zero => intro a h1 h2; omega
      | succ m ih =>
        intro a h1 h2
        have st : cnt (ones (List.replicate (n + 1) h)) [a] = cnt (ones (List.replicate n h)) [a] + cnt (ones (List.replicate (n + 1) h)) [a - h] := by
          have := cnt_step (g := 1) (h := [h]) (t := ones (List.replicate n h)) (b := [a]) (kd_one hp) rfl
          have e2 : subR [a] [h] 1 = [a - h] := by simp [subR]
          rw [e2] at this
          exact this
        rw [st, Int.natCast_add, cnt_alike h0 n a h1]
        by_cases c : a < h
        · rw [cnt_one_neg hp (by omega)]
          have ed : a / h = 0 := Int.ediv_eq_zero_of_lt h1 c
          rw [ed]
          show _ + 0 = if a % h = 0 then Bm (n + 1) 0 else 0
          rw [Bm_zero]
          show (if a % h = 0 then Bm n 0 else 0) + 0 = _
          rw [Bm_zero]
          omega
        · rw [ih (a - h) (by omega) (by omega)]
          have e1 : (a - h) % h = a % h := by rw [Int.sub_emod_right]
          have e2 : (a - h) / h = a / h - 1 := by
            have := Int.add_mul_ediv_right a (-1) (show h ≠ 0 by omega)
            have e : a + -1 * h = a - h := by omega
            rw [e] at this
            omega
          have h3 : 1 ≤ a / h := by
            have := Int.le_ediv_of_mul_le h0 (show 1 * h ≤ a by omega)
            exact this
          obtain ⟨k, hk⟩ : ∃ k, (a / h).toNat = k + 1 := ⟨(a / h).toNat - 1, by omega⟩
          have hk2 : (a / h - 1).toNat = k := by omega
          rw [e1, e2, hk2, hk, Bm_step]
          by_cases d : a % h = 0
          · rw [if_pos d, if_pos d, if_pos d]
            omega
          · rw [if_neg d, if_neg d, if_neg d]
            rfl
    exact main (a.toNat + 1) a ha (by omega)
theorem Bm_two (k : Nat) : Bm 2 k = (k : Int) + 1 := by
  show ((ch (k + 1) 1 : Nat) : Int) = _
  have := ch_step (k + 1) 0
  rw [ch_zero] at this
  simp at this
  omega
theorem Bm_five (k : Nat) : Bm 5 k = ((k : Int) + 1) * ((k : Int) + 2) / 2 * ((k : Int) + 3) * ((k : Int) + 4) / 12 := by
  show ((ch (k + 4) 4 : Nat) : Int) = _
  have s0 : ((ch (k + 4) 1 : Nat) : Int) = (k : Int) + 4 := by
    have := ch_step (k + 4) 0
    rw [ch_zero] at this
    simp at this
    omega
  have s1 : ((ch (k + 4) 2 : Nat) : Int) * 2 = ((ch (k + 4) 1 : Nat) : Int) * ((k : Int) + 3) := by
    have := ch_step (k + 4) 1
    have e : ((k + 4 : Nat) : Int) - ((1 : Nat) : Int) = (k : Int) + 3 := by omega
    rw [e] at this
    exact this
  have s2 : ((ch (k + 4) 3 : Nat) : Int) * 3 = ((ch (k + 4) 2 : Nat) : Int) * ((k : Int) + 2) := by
    have := ch_step (k + 4) 2
    have e : ((k + 4 : Nat) : Int) - ((2 : Nat) : Int) = (k : Int) + 2 := by omega
    rw [e] at this
    exact this
  have s3 : ((ch (k + 4) 4 : Nat) : Int) * 4 = ((ch (k + 4) 3 : Nat) : Int) * ((k : Int) + 1) := by
    have := ch_step (k + 4) 3
    have e : ((k + 4 : Nat) : Int) - ((3 : Nat) : Int) = (k : Int) + 1 := by omega
    rw [e] at this
    exact this
  have ev : ∃ X : Int, 2 * X = ((k : Int) + 1) * ((k : Int) + 2) := by
    rcases Int.emod_two_eq (k : Int) with e | e
    · obtain ⟨m, hm⟩ : ∃ m : Int, (k : Int) = 2 * m := ⟨(k : Int) / 2, by omega⟩
      exact ⟨(2 * m + 1) * (m + 1), by rw [hm]; grind⟩
    · obtain ⟨m, hm⟩ : ∃ m : Int, (k : Int) = 2 * m + 1 := ⟨(k : Int) / 2, by omega⟩
      exact ⟨(m + 1) * (2 * m + 3), by rw [hm]; grind⟩
  obtain ⟨X, hX⟩ := ev
  have eX : ((k : Int) + 1) * ((k : Int) + 2) / 2 = X := by
    rw [← hX]
    exact Int.mul_ediv_cancel_left X (by decide)
  rw [eX]
  generalize ((ch (k + 4) 4 : Nat) : Int) = c4 at *
  generalize ((ch (k + 4) 3 : Nat) : Int) = c3 at *
  generalize ((ch (k + 4) 2 : Nat) : Int) = c2 at *
  generalize ((ch (k + 4) 1 : Nat) : Int) = c1 at *
  generalize (k : Int) = y at *
  have e24 : c4 * 12 = X * (y + 3) * (y + 4) := by
    have h24 : c4 * 24 = (y + 4) * (y + 3) * ((y + 1) * (y + 2)) := by grind
    rw [← hX] at h24
    grind
  rw [← e24, Int.mul_ediv_cancel _ (by decide)]
/-- ones and twos -/
theorem cnt_twos (k : Nat) : cnt (ones [1, 2]) [2 * (k : Int) + 1] = k + 1 := by
  have hp : ∀ x ∈ ([1, 2] : List Int), 0 < x := fun x hx => by
    have : x = 1 ∨ x = 2 := by simpa using hx
    omega
  have st : ∀ a : Int, cnt (ones [1, 2]) [a] = cnt (ones [1]) [a] + cnt (ones [1, 2]) [a - 2] := fun a => by
    have := cnt_cut (g := 1) (l := ones [1, 2]) (b := [a]) (i := 1) (h := [2]) (kd_one hp) rfl rfl
    have e2 : subR [a] [2] 1 = [a - 2] := by simp [subR]
    rw [e2] at this
    exact this
  have on : ∀ a : Int, 0 ≤ a → cnt (ones [1]) [a] = 1 := fun a ha => by
    have := cnt_alike (h := 1) (by decide) 1 a ha
    rw [if_pos (Int.emod_one a)] at this
    have e : Bm 1 (a / 1).toNat = 1 := by
      show ((ch _ 0 : Nat) : Int) = 1
      rw [ch_zero]
      rfl
    rw [e] at this
    have t : (cnt (ones [1]) [a] : Int) = 1 := this
    omega
  induction k with
  | zero =>
    rw [st, on _ (by decide), cnt_one_neg hp (by decide)]
  | succ k ih =>
    rw [st, on _ (by omega)]
    have e : 2 * ((k + 1 : Nat) : Int) + 1 - 2 = 2 * (k : Int) + 1 := by omega
    rw [e, ih]
    omega
section
variable {P : Program} {w : World} {K : PySem.W.Frag} {mg : Str → Option Value} {base : Heap}
/-! ### the law's own table -/
def spTable : Sp := fun vs H Q _ => ∃ (p : Addr) (as : List Addr) (hs : List Int) (n : Nat), vs = [.ref p, .int (n : Int)] ∧ RowsAt H p as (ones hs) ∧ (∀ h ∈ hs, 1 ≤ h ∧ h ≤ 6) ∧ hs.length ≤ 100 ∧ 6 ≤ n ∧ n ≤ 1000 ∧
  ∀ (H' : Hp) (l : Addr) (fs : List Int), Same H H' → H l = none → H' l = some (.lst (fs.map V.int)) → fs.length = n + 1 → (∀ j, j ≤ n → fs.getD j 0 = (cnt (ones hs) [(j : Int)] : Nat)) → Q (.ref l) H'
theorem ok_table {f : Addr} {fd : FuncData} {k : Nat} (F : Fun K "_law_table" "_law_table" sTable f fd) (B : Bl mg) : FnOk P w K mg base CX0 (k + 1) f fd ["_law_mlot", "_law_top"] spTable := by
  refine F.ok scTa (fun vs H Q E h => ?_) (fun cdv A outer s H vs Q E hr h => ?_)
  · obtain ⟨p, as, hs, n, rfl, _⟩ := h
    rfl
  · obtain ⟨p, as, hs, n, rfl, R, hsb, hsl, hn6, hn, q⟩ := h
    refine ⟨_, (pss_cons (ps_set (i := 2) scTa.nd rfl (.inl rfl) (pe_op op_cat (pe_lst (pa_cons pe_int pa_nil)) (pe_op op_rep (pe_lst (pa_cons pe_int pa_nil)) (pv 1))))
      (pss_cons (ps_for PassesOwn.never rfl (pi_tup (pv 0)) (pg_name (i := 3) scTa.nd rfl (.inl rfl))
      (pss_one (ps_for PassesOwn.never rfl (pi_range2 (by rfl) B.range (pa_cons (pe_ix ix_tup (pv 3) pe_int (fun _ _ => rfl)) (pa_cons (pe_op op_add (pv 1) pe_int) pa_nil))) (pg_name (i := 4) scTa.nd rfl (.inl rfl))
      (pss_one (ps_asg (pe_op op_add (pe_ix ix_list (pv 2) (pv 4) (fun _ _ => rfl)) (pe_ix ix_list (pv 2) (pe_op op_sub (pv 4) (pe_ix ix_tup (pv 3) pe_int (fun _ _ => rfl))) (fun _ _ => rfl))) (pg_sub (pv 2) (pv 4) set_list))))))
      (pss_one (ps_ret (pv 2))))), ?_⟩
    have hal := R.2.len
    refine ⟨sz_1 _, fun l0 nl0 => ⟨sz_1 _, fun l1 nl1 => ?_⟩⟩
    have s0 := same_new (o := .lst [.int 1]) nl0
    have s1 := s0.trans (same_new (o := .lst [.int 0]) nl1)
    refine ⟨.int (n : Int), rfl, l1, _, _, rfl, rfl, upd_same, by omega, by omega, ?_, fun l2 nl2 => ?_⟩
    · rw [Int.toNat_natCast]
      show 1 * n ≤ sizeLine
      exact Nat.le_trans (show _ ≤ 2000 by omega) (by decide)
    rw [Int.toNat_natCast]
    have er : ∀ n : Nat, (List.replicate n [V.int 0]).flatten = (List.replicate n (0 : Int)).map V.int := fun n => by
      rw [List.map_replicate]
      induction n with
      | zero => rfl
      | succ n ih => rw [List.replicate_succ, List.flatten_cons, ih, List.replicate_succ]; rfl
    rw [er]
    have s2 := same_new (o := .lst ((List.replicate n (0 : Int)).map V.int)) nl2
    refine ⟨l0, l2, _, _, rfl, rfl, s2 _ _ ((same_new nl1) _ _ upd_same), upd_same, ?_, fun D nD => ?_⟩
    · rw [List.length_map, List.length_replicate]
      exact Nat.le_trans (show _ ≤ 2000 by show 1 + n ≤ 2000; omega) (by decide)
    have s3 := s1.trans s2
    have nD0 : H D = none := s3.free nD
    have sD := s3.trans (same_new (o := .lst ([V.int 1] ++ (List.replicate n (0 : Int)).map V.int)) nD)
    have hp : ∀ x ∈ hs, 0 < x := fun x hx => by have := hsb x hx; omega
    refine ⟨.ref p, rfl, p, rfl, ⟨_, SqT.of (R.same sD).1⟩, ?_⟩
    refine for_it (walk_tup (K := K) (a := p) (xs := as.map V.ref)) (fun i σ H' => Same H H' ∧ (∃ y3 y4, σ = [some (.ref p), some (.int (n : Int)), some (.ref D), y3, y4]) ∧ ∃ fs : List Int, H' D = some (.lst (fs.map V.int)) ∧ fs.length = n + 1 ∧ ∀ j, j ≤ n → fs.getD j 0 = (cnt (ones (hs.take i)) [(j : Int)] : Nat))
      ⟨sD, ⟨none, none, rfl⟩, 1 :: List.replicate n 0, upd_same, by rw [List.length_cons, List.length_replicate], fun j hj => ?_⟩ (fun i σ H' _ hI => SqT.of (R.same hI.1).1) (fun i x σ H3 H' hi hI hY => ?_) (fun σ H' hI => ?_)
    · rw [List.take_zero]
      show _ = ((cnt [] [(j : Int)] : Nat) : Int)
      unfold cnt
      cases j with
      | zero => rfl
      | succ j =>
        have e : zeroB [((j + 1 : Nat) : Int)] = false := by simp [zeroB]; omega
        rw [e, List.getD_eq_getElem?_getD, List.getElem?_cons_succ, List.getElem?_eq_getElem (by rw [List.length_replicate]; omega), List.getElem_replicate]
        rfl
    · obtain ⟨sm, ⟨y3, y4, eσ⟩, fs, hfs, hfl, hft⟩ := hI
      obtain ⟨eY, hx⟩ := hY
      subst eY eσ
      obtain ⟨rb, hrb, rfl⟩ : ∃ c, as[i]? = some c ∧ x = V.ref c := by
        rw [List.getElem?_map] at hx
        cases e : as[i]? with
        | none => rw [e] at hx; cases hx
        | some c => rw [e] at hx; exact ⟨c, rfl, (Option.some.inj hx).symm⟩
      obtain ⟨r, hr1, hr2⟩ := (R.same sm).2.at hrb
      obtain ⟨h, hh, rfl⟩ : ∃ h, hs[i]? = some h ∧ r = [h] := by
        rw [List.getElem?_map] at hr1
        cases e : hs[i]? with
        | none => rw [e] at hr1; cases hr1
        | some c => rw [e] at hr1; exact ⟨c, rfl, (Option.some.inj hr1).symm⟩
      obtain ⟨k1, k6⟩ := hsb h (List.mem_of_getElem? hh)
      have hr2 : IntsAt H' rb [h] := hr2
      have hp' : ∀ x ∈ hs.take (i + 1), 0 < x := fun x hx => hp x (List.mem_of_mem_take hx)
      have et : ones (hs.take (i + 1)) = ones (hs.take i) ++ [[h]] := by
        show (hs.take (i + 1)).map _ = _
        rw [List.take_add_one, hh, List.map_append]
        rfl
      have stp : ∀ a : Int, cnt (ones (hs.take (i + 1))) [a] = cnt (ones (hs.take i)) [a] + cnt (ones (hs.take (i + 1))) [a - h] := fun a => by
        have c1 := cnt_cut (g := 1) (l := ones (hs.take (i + 1))) (b := [a]) (i := (ones (hs.take i)).length) (h := [h]) (kd_one hp') rfl (by rw [et, List.getElem?_append_right (Nat.le_refl _), Nat.sub_self]; rfl)
        have e1 : (ones (hs.take (i + 1))).take (ones (hs.take i)).length ++ (ones (hs.take (i + 1))).drop ((ones (hs.take i)).length + 1) = ones (hs.take i) := by
          rw [et, List.take_left, List.drop_eq_nil_of_le (by rw [List.length_append]; exact Nat.le_refl _), List.append_nil]
        have e2 : subR [a] [h] 1 = [a - h] := by simp [subR]
        rw [e1, e2] at c1
        exact c1
      refine ⟨.ref rb, rfl, rb, _, 0, .int h, rfl, rfl, SqT.of hr2, rfl, .int (n : Int), rfl, (n : Int), 1, rfl, rfl, h, _, rfl, ⟨by omega, by omega, by omega, by omega⟩, ?_⟩
      refine for_range (lo := h) (n := ((n : Int) + 1 - h).toNat) (fun m σ H2 => Same H H2 ∧ (∃ y4, σ = [some (.ref p), some (.int (n : Int)), some (.ref D), some (.ref rb), y4]) ∧ ∃ gs : List Int, H2 D = some (.lst (gs.map V.int)) ∧ gs.length = n + 1 ∧ ∀ j, j ≤ n → gs.getD j 0 = if (j : Int) < h + (m : Int) then (cnt (ones (hs.take (i + 1))) [(j : Int)] : Nat) else (cnt (ones (hs.take i)) [(j : Int)] : Nat))
        ⟨sm, ⟨_, rfl⟩, fs, hfs, hfl, fun j hj => ?_⟩ (fun m σ H2 hm hI => ?_) (fun σ H2 hI => ?_)
      · by_cases c : (j : Int) < h + ((0 : Nat) : Int)
        · rw [if_pos c, stp, cnt_one_neg hp' (by omega)]
          exact hft j hj
        · rw [if_neg c]
          exact hft j hj
      · obtain ⟨sm2, ⟨y4', rfl⟩, gs, hgs, hgl, hgt⟩ := hI
        have hk : h + (m : Int) = ((h.toNat + m : Nat) : Int) := by omega
        have hkn : h.toNat + m ≤ n := by omega
        have hr2' : IntsAt H2 rb [h] := by
          obtain ⟨r', e1, e2⟩ := (R.same sm2).2.at hrb
          cases (e1.symm.trans hr1)
          exact e2
        have e3 : h + (m : Int) - h = (m : Int) := by omega
        refine ⟨.ref D, rfl, .int (h + (m : Int)), rfl, D, _, _, .int (gs.getD (h.toNat + m) 0), rfl, rfl, SqL.of hgs, by rw [hk]; exact atIT (by omega), .ref D, rfl, .int (h + (m : Int)), rfl, .ref rb, rfl, rb, _, 0, .int h, rfl, rfl, SqT.of hr2', rfl, _, h, rfl, rfl, D, _, _, .int (gs.getD m 0), rfl, rfl, SqL.of hgs, by rw [e3]; exact atIT (by omega), _, _, rfl, rfl, .ref D, rfl, .int (h + (m : Int)), rfl, D, _, _, h.toNat + m, rfl, rfl, hgs, ?_, ?_⟩
        · rw [hk]
          unfold ixN
          rw [if_pos (by omega), List.length_map, if_pos (by omega), Int.toNat_natCast]
        refine ⟨same_late sm2 nD0, ⟨_, rfl⟩, gs.set (h.toNat + m) (gs.getD (h.toNat + m) 0 + gs.getD m 0), by rw [upd_same, List.map_set], by rw [List.length_set]; exact hgl, fun j hj => ?_⟩
        have hset : (gs.set (h.toNat + m) (gs.getD (h.toNat + m) 0 + gs.getD m 0)).getD j 0 = if j = h.toNat + m then gs.getD (h.toNat + m) 0 + gs.getD m 0 else gs.getD j 0 := by
          rw [List.getD_eq_getElem?_getD, List.getElem?_set]
          by_cases e : j = h.toNat + m
          · rw [if_pos e.symm, if_pos (by omega), if_pos e]
            rfl
          · rw [if_neg (fun z => e z.symm), if_neg e, ← List.getD_eq_getElem?_getD]
        rw [hset]
        by_cases e : j = h.toNat + m
        · rw [if_pos e, if_pos (by omega), hgt _ hkn, hgt m (by omega), if_neg (by omega), if_pos (by omega), stp (j : Int)]
          have e4 : (j : Int) - h = (m : Int) := by omega
          rw [e4, e]
          exact (Int.natCast_add _ _).symm
        · rw [if_neg e, hgt j hj]
          by_cases c : (j : Int) < h + (m : Int)
          · rw [if_pos c, if_pos (by omega)]
          · rw [if_neg c, if_neg (by omega)]
      · obtain ⟨sm2, ⟨y4', rfl⟩, gs, hgs, hgl, hgt⟩ := hI
        refine ⟨sm2, ⟨_, _, rfl⟩, gs, hgs, hgl, fun j hj => ?_⟩
        rw [hgt j hj, if_pos (by omega)]
    · obtain ⟨sm, ⟨y3, y4, eσ⟩, fs, hfs, hfl, hft⟩ := hI
      rw [List.length_map, hal] at hft
      have e : hs.take (ones hs).length = hs := by
        show hs.take (hs.map _).length = hs
        rw [List.length_map, List.take_length]
      rw [e] at hft
      subst eσ
      exact ⟨.ref D, rfl, q H' D fs sm nD0 hfs hfl hft⟩
end
end HL

set_option pp.maxSteps 3000
namespace HL
open PySem PySem.Spec PyProof.Rows L2
open C8 (pss_cut)
theorem scFi : FnScope ["_law_size", "_law_mamount", "_law_many", "_law_due"] ["_law_size", "_law_mamount"] (defScope sFive) := ⟨rfl, rfl, rfl, by decide +kernel, rfl, by decide +kernel, by decide +kernel⟩
theorem scPL : FnScope ["_law_mlot", "_law_where", "e"] ["_law_mlot"] (defScope sPlaceL) := ⟨rfl, rfl, rfl, by decide +kernel, rfl, by decide +kernel, by decide +kernel⟩
theorem scGreat : FnScope ["_law_feed_here", "_law_size"] ["_law_feed_here"] (defScope sGreat) := ⟨rfl, rfl, rfl, by decide +kernel, rfl, by decide +kernel, by decide +kernel⟩
theorem good_flaw {g m : Int} {ll : List (List Int)} (g1 : 1 ≤ g) (g3 : g ≤ 3) (m6 : m ≤ 6) (h : GoodLot g m 5 ll) : flaw ll = none := by
  obtain ⟨h1, h2, h3⟩ := h
  have hw : width ll = g.toNat := by
    cases ll with
    | nil => simp at h1
    | cons r rs => exact (h3 r List.mem_cons_self).1
  unfold flaw
  rw [if_pos ⟨h1, h2, by omega, by omega⟩]
  exact flawIn_none fun j r hj hjr => by
    obtain ⟨e1, e2, e3⟩ := h3 r (List.mem_of_getElem? hjr)
    refine okRow_iff.mpr ⟨by rw [e1, hw], fun n hn => ?_, e3⟩
    have := e2 n hn
    omega
theorem eqd_leaf {H : Hp} {d : Nat} {v : V} (h : leafV v = true) : Eqd H d v v := by
  cases d with
  | zero => exact ⟨rfl, h⟩
  | succ d => exact .inl ⟨rfl, h⟩
theorem ite_join {b : Bool} {te1 te2 : TE} {σ : L2.St} {H : Hp} {Q : VK} (Z : V → Hp → Prop) (h1 : b = true → ∀ Q' : VK, (∀ v H', Z v H' → Q' v H') → te1 σ H Q') (h2 : b = false → ∀ Q' : VK, (∀ v H', Z v H' → Q' v H') → te2 σ H Q') (q : ∀ v H', Z v H' → Q v H') :
    if b = true then te1 σ H Q else te2 σ H Q := by
  cases b with
  | true => exact iteT (h1 rfl Q q)
  | false => exact iteF (h2 rfl Q q)
theorem flaw_ones {hs : List Int} (h1 : 1 ≤ hs.length) (h5 : hs.length ≤ 5) (hb : ∀ h ∈ hs, 1 ≤ h ∧ h ≤ 6) : flaw (ones hs) = none ∧ width (ones hs) = 1 := by
  refine ⟨good_flaw (g := 1) (m := 6) (by decide) (by decide) (by decide) ⟨by rw [List.length_map]; exact h1, by rw [List.length_map]; exact h5, fun r hr => ?_⟩, ?_⟩
  · obtain ⟨x, hx, rfl⟩ := List.mem_map.mp hr
    have := hb x hx
    exact ⟨rfl, fun n hn => by rw [List.mem_singleton.mp hn]; omega, x, List.mem_cons_self, by omega⟩
  · cases hs with
    | nil => simp at h1
    | cons x hs => rfl
theorem right_one {a : Int} (h0 : 0 ≤ a) (h1 : a < G30) : wrong ((1 : Nat) : Int) [a] = none := by
  refine wrong_none rfl fun j z hj hz => ?_
  have : z = a := by
    have := List.mem_of_getElem? hz
    exact List.mem_singleton.mp this
  rw [this]
  exact decide_eq_true ⟨h0, h1⟩
theorem w500 {x : Int} (h0 : 0 ≤ x) (h1 : x ≤ 10 ^ 140) : x.natAbs.log2 < 500 := by
  refine log_lt ?_
  have e : (10 : Nat) ^ 140 < 2 ^ 500 := by decide
  have e2 : ((10 : Nat) ^ 140 : Int) = (10 : Int) ^ 140 := by decide
  omega
section
variable {P : Program} {w : World} {K : PySem.W.Frag} {mg : Str → Option Value} {base : Heap}
def spGreat : Sp := fun vs H Q _ => ∃ (f c : Addr), vs = [.ref f] ∧ FeedAt c H f ∧ ∀ d H', 0 ≤ d → d < 100000000000000000000000000000 → Kp f H H' → FeedAt c H' f → Q (.int d) H'
theorem ok_great {f : Addr} {fd : FuncData} (F : Fun K "_law_great" "_law_great" sGreat f fd) (CD : Cal P w K mg base CX0 1 "_law_draw" ["_law_feed_here", "_law_many"] spDraw) (CP : Cal P w K mg base CX0 2 "_law_pick" ["_law_feed_here", "_law_row"] spPick) :
    FnOk P w K mg base CX0 3 f fd ["_law_feed_here"] spGreat := by
  obtain ⟨fD, fdD, GD, gD, kD, bD⟩ := CD.ex
  obtain ⟨fP, fdP, GP, gP, kP, bP⟩ := CP.ex
  refine F.ok scGreat (fun vs H Q E h => ?_) (fun cdv A outer s H vs Q E hr h => ?_)
  · obtain ⟨a, c, rfl, _⟩ := h
    rfl
  · obtain ⟨a, c, rfl, Fd, q⟩ := h
    refine ⟨_, pss_cons (ps_set (i := 1) scGreat.nd rfl (.inl rfl) (pe_call GP hr (by rfl) gP kP bP .nil pass0 (pa_cons (pv 0) (pa_cons (pe_lst (pa_cons pe_int (pa_cons pe_int (pa_cons (pe_op op_pow pe_int pe_int) (pa_cons (pe_op op_pow pe_int pe_int) (pa_cons (pe_op op_pow pe_int pe_int) pa_nil)))))) pa_nil))))
      (pss_one (ps_ret (pe_call GD (hr.mono (by decide)) (by rfl) gD kD bD .nil pass0 (pa_cons (pv 0) (pa_cons (pv 1) pa_nil))))), ?_⟩
    refine ⟨.ref a, rfl, 10, 6, rfl, rfl, ⟨by decide, by decide, by decide⟩, 10, 15, rfl, rfl, ⟨by decide, by decide, by decide⟩, 10, 29, rfl, rfl, ⟨by decide, by decide, by decide⟩, (by show 5 ≤ sizeLine; decide), fun l nl => ?_⟩
    refine ⟨a, c, l, _, rfl, upd_same, Fd.ne nl, by decide, by decide, Fd.new nl, fun v H2 hv k2 F2 => ?_⟩
    obtain ⟨z, rfl, z1, z2⟩ : ∃ z : Int, v = .int z ∧ 1 ≤ z ∧ z ≤ 100000000000000000000000000000 := by
      simp only [List.mem_cons, List.mem_nil_iff, or_false] at hv
      rcases hv with h | h | h | h | h <;> exact ⟨_, h, by decide, by decide⟩
    refine ⟨.ref a, rfl, .int z, rfl, a, c, z, rfl, z1, by omega, F2, fun d H3 d0 d1 k3 F3 => q d H3 d0 (by omega) ((Kp.new nl).trans (k2.trans k3)) F3⟩
/-! ### five kinds alike -/
def spFive : Sp := fun vs H Q _ => ∃ s a : Int, vs = [.int s, .int a] ∧ 1 ≤ s ∧ s ≤ 6 ∧ 0 ≤ a ∧ a < G30 ∧ ∀ H', Same H H' → Q (.bl true) H'
theorem ok_five {f : Addr} {fd : FuncData} {C CB CO : Addr} (F : Fun K "_law_five_right" "_law_five_right" sFive f fd) (CS : Cal P w K mg base CX0 3 "_law_same" ["_law_found", "_law_due"] (spSame 2)) (CH : Cal P w K mg base (L2.CX P w) 6 "how_many_of_one" ["lot", "amount"] (spHM1 C CB CO)) :
    FnOk P w K mg base CX0 7 f fd ["_law_size", "_law_mamount"] spFive := by
  obtain ⟨fS, fdS, GS, gS, kS, bS⟩ := CS.ex
  obtain ⟨fHM, fdHM, GHM, gHM, kHM, bHM⟩ := CH.ex
  refine F.ok scFi (fun vs H Q E h => ?_) (fun cdv A outer st H vs Q E hr h => ?_)
  · obtain ⟨s, a, rfl, _⟩ := h
    rfl
  · obtain ⟨s, a, rfl, s1, s6, a0, a1, q⟩ := h
    have a1' : a < 1000000000000000000000000000000 := a1
    refine ⟨_, (pss_cut (ps_set (i := 2) scFi.nd rfl (.inl rfl) (pe_op op_fdiv (pv 1) (pv 0)))
      (pss_cons (ps_set (i := 3) scFi.nd rfl (.inl rfl) (pe_op op_fdiv (pe_op op_mulW (pe_op op_mulW (pe_op op_fdiv (pe_op op_mulW (pe_op op_add (pv 2) pe_int) (pe_op op_add (pv 2) pe_int)) pe_int) (pe_op op_add (pv 2) pe_int)) (pe_op op_add (pv 2) pe_int)) pe_int))
      (pss_cut (ps_set (i := 3) scFi.nd rfl (.inl rfl) (pe_ifExp (pt_cmpR op_eq (pe_op op_mod (pv 1) (pv 0)) pe_int (nomark _)) (pv 3) pe_int))
      (pss_one (ps_ret (pe_call GS (hr.mono (by decide)) (by rfl) gS kS bS .nil pass0 (pa_cons (pe_call GHM (hr.mono (by decide)) (by rfl) gHM kHM bHM .nil passL (pa_cons (pe_op op_repT (pe_tup (pa_cons (pe_tup (pa_cons (pv 0) pa_nil)) pa_nil)) pe_int) (pa_cons (pv 1) pa_nil))) (pa_cons (pv 3) pa_nil)))))))), ?_⟩
    have k0 : 0 ≤ a / s := Int.ediv_nonneg a0 (by omega)
    have k1 : a / s ≤ a := Int.ediv_le_self s a0
    obtain ⟨k, hk⟩ : ∃ k : Nat, a / s = (k : Int) := ⟨(a / s).toNat, by omega⟩
    rw [hk] at k0 k1
    have kb : (k : Int) + 4 ≤ 10 ^ 31 := by
      have : (10 : Int) ^ 31 = 10000000000000000000000000000000 := by decide
      omega
    have b1 : 0 ≤ ((k : Int) + 1) * ((k : Int) + 2) ∧ ((k : Int) + 1) * ((k : Int) + 2) ≤ 10 ^ 62 := by
      refine ⟨Int.mul_nonneg (by omega) (by omega), Int.le_trans (Int.mul_le_mul (show (k : Int) + 1 ≤ 10 ^ 31 by omega) (show (k : Int) + 2 ≤ 10 ^ 31 by omega) (by omega) (by decide)) (by decide)⟩
    have b2 : 0 ≤ ((k : Int) + 1) * ((k : Int) + 2) / 2 ∧ ((k : Int) + 1) * ((k : Int) + 2) / 2 ≤ 10 ^ 62 := ⟨Int.ediv_nonneg b1.1 (by decide), Int.le_trans (Int.ediv_le_self 2 b1.1) b1.2⟩
    have b3 : 0 ≤ ((k : Int) + 1) * ((k : Int) + 2) / 2 * ((k : Int) + 3) ∧ ((k : Int) + 1) * ((k : Int) + 2) / 2 * ((k : Int) + 3) ≤ 10 ^ 93 := by
      refine ⟨Int.mul_nonneg b2.1 (by omega), Int.le_trans (Int.mul_le_mul b2.2 (show (k : Int) + 3 ≤ 10 ^ 31 by omega) (by omega) (by decide)) (by decide)⟩
    have big : (10 : Int) ^ 31 ≤ 10 ^ 140 := by decide
    have lg : ∀ {x y : Int}, 0 ≤ x → x ≤ 10 ^ 140 → 0 ≤ y → y ≤ 10 ^ 140 → CMulW x y := fun {x y} h1 h2 h3 h4 => by
      have e1 := w500 h1 h2
      have e2 := w500 h3 h4
      show _ + _ < 1000000
      omega
    refine ⟨fun σ' H' => σ' = [some (.int s), some (.int a), some (.int (k : Int)), none] ∧ H' = H, ?_, ?_⟩
    · refine ⟨.int a, rfl, .int s, rfl, a, s, rfl, rfl, ⟨by omega, by omega⟩, ?_, rfl⟩
      show [some (V.int s), some (V.int a), some (V.int (a / s)), none] = _
      rw [hk]
    rintro σ' H' ⟨rfl, rfl⟩
    refine ⟨_, rfl, (k : Int), 1, rfl, rfl, _, rfl, (k : Int), 2, rfl, rfl, _, _, rfl, rfl, lg (by omega) (by omega) (by omega) (by omega), _, 2, rfl, rfl, ⟨by decide, by decide⟩, _, rfl, (k : Int), 3, rfl, rfl, _, _, rfl, rfl, lg b2.1 (Int.le_trans b2.2 (by decide)) (by omega) (by omega),
      _, rfl, (k : Int), 4, rfl, rfl, _, _, rfl, rfl, lg b3.1 (Int.le_trans b3.2 (by decide)) (by omega) (by omega), _, 12, rfl, rfl, ⟨by decide, by decide⟩, ?_⟩
    refine ⟨fun σ' H'' => σ' = [some (.int s), some (.int a), some (.int (k : Int)), some (.int (cnt (ones (List.replicate 5 s)) [a] : Nat))] ∧ H'' = H', ?_, ?_⟩
    · have hc := cnt_alike (h := s) (by omega) 5 a a0
      rw [hk, Int.toNat_natCast, Bm_five] at hc
      refine ⟨.int a, rfl, .int s, rfl, a, s, rfl, rfl, (show (0 : Int) < s by omega), rfl, _, rfl, ite2 (fun c => ?_) (fun c => ?_)⟩
      · have c' : a % s = 0 := V.int.inj (of_decide_eq_true c)
        rw [if_pos c'] at hc
        refine ⟨_, rfl, ?_, rfl⟩
        rw [hc]
        rfl
      · have c' : ¬ a % s = 0 := fun e => c (decide_eq_true (show V.int (a % s) = V.int 0 by rw [e]))
        rw [if_neg c'] at hc
        refine ⟨?_, rfl⟩
        rw [hc]
        rfl
    rintro σ' H'' ⟨rfl, rfl⟩
    refine ⟨.int s, rfl, sz_1 _, fun t1 nt1 => ⟨sz_1 _, fun t2 nt2 => ?_⟩⟩
    have st1 := same_new (o := .tup [.int s]) nt1
    have st2 := same_new (o := .tup [.ref t1]) nt2
    refine ⟨t2, 5, _, rfl, rfl, SqT.of upd_same, (fun z => by cases z), by decide, by decide, (by show 1 ≤ 1000; decide), fun p np => ?_⟩
    have sp := same_new (o := .tup (List.replicate (5 : Int).toNat [V.ref t1]).flatten) np
    have h1' : IntsAt (upd (upd (upd H'' t1 (.tup [.int s])) t2 (.tup [.ref t1])) p (.tup (List.replicate (5 : Int).toNat [V.ref t1]).flatten)) t1 [s] := sp _ _ (st2 _ _ upd_same)
    obtain ⟨f1, f2⟩ := flaw_ones (hs := List.replicate 5 s) (by rw [List.length_replicate]; decide) (by rw [List.length_replicate]; decide) fun h hh => by rw [List.eq_of_mem_replicate hh]; exact ⟨s1, s6⟩
    have RL : LotB (upd (upd (upd H'' t1 (.tup [.int s])) t2 (.tup [.ref t1])) p (.tup (List.replicate (5 : Int).toNat [V.ref t1]).flatten)) p [t1, t1, t1, t1, t1] (ones (List.replicate 5 s)) :=
      ⟨⟨upd_same, h1', h1', h1', h1', h1', True.intro⟩, (by show 5 ≤ 100; decide), fun r hr => by obtain ⟨x, _, rfl⟩ := List.mem_map.mp hr; show 1 ≤ 100; decide⟩
    refine ⟨.int a, rfl, p, [t1, t1, t1, t1, t1], ones (List.replicate 5 s), a, rfl, RL, fun k hk => (by rw [f1] at hk; cases hk), fun _ z => absurd f2 z, fun _ _ k hk => (by rw [f2, right_one a0 a1] at hk; cases hk), fun _ _ _ H2 s2 => ?_⟩
    refine ⟨_, rfl, _, _, rfl, eqd_leaf rfl, fun H3 s3 => q H3 (st1.trans (st2.trans (sp.trans (s2.trans s3))))⟩
/-! ### where a great amount is wrong -/
structure ClsP (K : PySem.W.Frag) (mg : Str → Option Value) (CB : Addr) : Prop where
  gB : mg "BadBill" = some (.ref CB)
  xB : XfC K CB
  nB : PySem.W.findIn K (.ref CB) "good" = some none
  bb : PySem.W.exmOne K (.ref CB) (.ref CB) = some true
def spPlaceL : Sp := fun vs H Q _ => ∃ (p : Addr) (as : List Addr) (ll : List (List Int)), vs = [.ref p] ∧ LotB H p as ll ∧ flaw ll = none ∧ width ll = 1 ∧ ∀ H', Q (.int 0) H'
theorem ok_placeL {f : Addr} {fd : FuncData} {C CB CO : Addr} (F : Fun K "_law_place" "_law_place" sPlaceL f fd) (T : ClsP K mg CB) (CH : Cal P w K mg base (L2.CX P w) 6 "how_many_of_one" ["lot", "amount"] (spHM1 C CB CO)) :
    FnOk P w K mg base CX0 7 f fd ["_law_mlot"] spPlaceL := by
  obtain ⟨fHM, fdHM, GHM, gHM, kHM, bHM⟩ := CH.ex
  refine F.ok scPL (fun vs H Q E h => ?_) (fun cdv A outer st H vs Q E hr h => ?_)
  · obtain ⟨p, as, ll, rfl, _⟩ := h
    rfl
  · obtain ⟨p, as, ll, rfl, hL, ef, hw, q⟩ := h
    refine ⟨_, pss_cons (ps_set (i := 1) scPL.nd rfl (.inl rfl) (pe_un un_neg pe_int)) (pss_cons (ps_try_manyA (i := 2) (n := "e")
      (tb := fun W => tDrop (tCall (spHM1 C CB CO) [] (fun cls d H' => ∀ σ : L2.St, σ.length = 3 → W cls d σ H') (tCons (tVar 0) (tCons (tOp (rI CPow fun i j => .int (i ^ j.toNat)) (tC (.int 10)) (tC (.int 30))) tNil)))) (Wout := fun _ _ _ _ => False)
      (l := [(.ref CB, fun a cls d => tAsg (tXf a cls d CB "good" (tVar 2)) (gName 1))])
      rfl rfl scPL.nd rfl rfl L2.takes0 (fun W pn xe tk _ => pss_one (ps_expr (pe_call GHM (hr.mono (by decide)) (by rfl) gHM kHM bHM .nil (passes_call (takes_len tk) (fun cls d σ H' h hl => h σ hl)) (pa_cons (pv 0) (pa_cons (pe_op op_pow pe_int pe_int) pa_nil)))))
      (.cons ⟨rfl, by decide, .inl T.gB⟩ (fun a oe cls d pn hz hf => pss_one (ps_set (i := 1) scPL.nd rfl (.inl rfl) (pe_xf T.xB T.nB hz hf (pv 2)))) .nil))
    (pss_one (ps_ret (pv 1)))), ?_⟩
    refine ⟨1, rfl, ?_⟩
    refine ⟨.ref p, rfl, 10, 30, rfl, rfl, ⟨by decide, by decide, by decide⟩, p, as, ll, _, rfl, hL, fun k hk => (by rw [ef] at hk; cases hk), fun _ z => absurd hw z, fun _ _ k hk => ?_, fun _ _ ew => ?_⟩
    · have ek : k = 0 := by
        rw [hw] at hk
        have : wrong ((1 : Nat) : Int) [(10 : Int) ^ (30 : Int).toNat] = some 0 := by decide +kernel
        rw [this] at hk
        exact (Option.some.inj hk).symm
      subst ek
      intro H' d s' nd hd σ hl
      obtain ⟨x0, x1, x2, rfl⟩ : ∃ x0 x1 x2, σ = [x0, x1, x2] := by
        match σ, hl with
        | [x0, x1, x2], _ => exact ⟨x0, x1, x2, rfl⟩
      refine ⟨true, T.bb, fun _ a na => ?_, fun z => Bool.noConfusion z⟩
      exact ⟨.ref a, rfl, rfl, rfl, d, _, .int 0, rfl, hd, rfl, .int 0, rfl, q _⟩
    · rw [hw] at ew
      have : wrong ((1 : Nat) : Int) [(10 : Int) ^ (30 : Int).toNat] = some 0 := by decide +kernel
      rw [this] at ew
      cases ew
end
end HL

set_option pp.maxSteps 600
set_option pp.deepTerms false
namespace HL
open PySem PySem.Spec PyProof.Rows L2
open C8 (pss_cut)
open LamX (CodeO Tabs TabS TabB ExtN tLam LamS lamS_by lamCx lamEnv codeO_ne)
abbrev NL : List Str := ["_law_script", "_law_feed_here", "_law_mlot", "_law_table_here", "_law_turn", "_law_mamount", "_law_kind", "_law_left", "_law_due", "_law_size", "_law_words", "_law_at"]
theorem scLaw : FnScope NL ["_law_script"] (defScope sLaw) := ⟨rfl, rfl, rfl, by decide +kernel, rfl, by decide +kernel, by decide +kernel⟩
abbrev qLam : Str := ((Str.ofString "law" : Str) ++ (Str.ofString ".<locals>." : Str)) ++ (Str.ofString "<lambda>" : Str)
theorem ne_fresh {H : Hp} {a b : Addr} {o : HO} (h : H a = some o) (n : H b = none) : a ≠ b := fun e => by rw [e, n] at h; cases h
theorem LotB.kp {H H' : Hp} {p f c : Addr} {as : List Addr} {ll : List (List Int)} (h : LotB H p as ll) (F : FeedAt c H f) (k : Kp f H H') : LotB H' p as ll := ⟨h.1.kp F k, h.2⟩
theorem LotB.ext {H H' : Hp} {p : Addr} {as : List Addr} {ll : List (List Int)} (h : LotB H p as ll) (e : ExtN H H') : LotB H' p as ll := ⟨⟨e _ _ h.1.1 (fun ps z => by cases z), h.1.2.mono fun a xs q => e _ _ q (fun ps z => by cases z)⟩, h.2⟩
theorem ones_take {hs : List Int} {i : Nat} : (ones hs).take i ++ (ones hs).drop (i + 1) = ones (hs.take i ++ hs.drop (i + 1)) := by
  show (hs.map _).take i ++ (hs.map _).drop (i + 1) = (hs.take i ++ hs.drop (i + 1)).map _
  rw [List.map_append, List.map_take, List.map_drop]
theorem Rows.takeN {H : Hp} : ∀ {as : List Addr} {ll : List (List Int)} (k : Nat), Rows H as ll → Rows H (as.take k) (ll.take k)
  | [], [], k, _ => by rw [List.take_nil, List.take_nil]; exact True.intro
  | _ :: _, _ :: _, 0, _ => True.intro
  | _ :: _, _ :: _, k + 1, h => ⟨h.1, Rows.takeN k h.2⟩
  | [], _ :: _, _, h => h.elim
  | _ :: _, [], _, h => h.elim
theorem Rows.dropN {H : Hp} : ∀ {as : List Addr} {ll : List (List Int)} (k : Nat), Rows H as ll → Rows H (as.drop k) (ll.drop k)
  | [], [], k, _ => by rw [List.drop_nil, List.drop_nil]; exact True.intro
  | _ :: _, _ :: _, 0, h => h
  | _ :: _, _ :: _, k + 1, h => Rows.dropN k h.2
  | [], _ :: _, _, h => h.elim
  | _ :: _, [], _, h => h.elim
/-- the first i, the k-th left out -/
def cutA (as : List Addr) (kd i : Nat) : List Addr := (as.take i).take kd ++ (as.take i).drop (kd + 1)
theorem cutA_more {as : List Addr} {kd i : Nat} {x : Addr} (h : as[i]? = some x) (hne : i ≠ kd) : cutA as kd (i + 1) = cutA as kd i ++ [x] := by
  have hil := (List.getElem?_eq_some_iff.mp h).1
  have hli : (as.take i).length = i := by rw [List.length_take]; omega
  have etk : as.take (i + 1) = as.take i ++ [x] := by rw [List.take_add_one, h]; rfl
  unfold cutA
  rw [etk]
  generalize as.take i = l at hli
  by_cases c : i < kd
  · have a1 : (l ++ [x]).take kd = l ++ [x] := List.take_of_length_le (by rw [List.length_append, hli]; show i + 1 ≤ kd; omega)
    have a2 : (l ++ [x]).drop (kd + 1) = [] := List.drop_eq_nil_of_le (by rw [List.length_append, hli]; show i + 1 ≤ kd + 1; omega)
    have a3 : l.take kd = l := List.take_of_length_le (by omega)
    have a4 : l.drop (kd + 1) = [] := List.drop_eq_nil_of_le (by omega)
    rw [a1, a2, a3, a4, List.append_nil, List.append_nil]
  · rw [List.take_append_of_le_length (by omega), List.drop_append_of_le_length (by omega), List.append_assoc]
theorem cutA_skip {as : List Addr} {kd : Nat} {x : Addr} (h : as[kd]? = some x) : cutA as kd (kd + 1) = cutA as kd kd := by
  have hil := (List.getElem?_eq_some_iff.mp h).1
  have hli : (as.take kd).length = kd := by rw [List.length_take]; omega
  have etk : as.take (kd + 1) = as.take kd ++ [x] := by rw [List.take_add_one, h]; rfl
  unfold cutA
  rw [etk]
  generalize as.take kd = l at hli
  have a2 : (l ++ [x]).drop (kd + 1) = [] := List.drop_eq_nil_of_le (by rw [List.length_append, hli]; show kd + 1 ≤ kd + 1; omega)
  have a4 : l.drop (kd + 1) = [] := List.drop_eq_nil_of_le (by omega)
  rw [List.take_append_of_le_length (by omega), a2, a4]
theorem cutA_len {as : List Addr} {kd i : Nat} : (cutA as kd i).length ≤ as.length := by
  unfold cutA
  rw [List.length_append, List.length_take, List.length_drop, List.length_take]
  omega
theorem cutA_all {as : List Addr} {kd : Nat} : cutA as kd as.length = as.take kd ++ as.drop (kd + 1) := by
  unfold cutA
  rw [List.take_length]
/-- all that the law takes from the module -/
structure Txt (P : Program) (w : World) (K : PySem.W.Frag) (mg : Str → Option Value) (base : Heap) (C CB CO CE CM CN : Addr) : Prop where
  B : Bl mg
  feed : Cal P w K mg base CX0 1 "_law_feed" ["_law_script"] (spFeed K)
  draw : Cal P w K mg base CX0 1 "_law_draw" ["_law_feed_here", "_law_many"] spDraw
  pick : Cal P w K mg base CX0 2 "_law_pick" ["_law_feed_here", "_law_row"] spPick
  great : Cal P w K mg base CX0 3 "_law_great" ["_law_feed_here"] spGreat
  same2 : Cal P w K mg base CX0 3 "_law_same" ["_law_found", "_law_due"] (spSame 2)
  lo : Cal P w K mg base CX0 3 "_law_lot" ["_law_feed_here", "_law_goods", "_law_kinds", "_law_most"] spLot
  ta : Cal P w K mg base CX0 1 "_law_table" ["_law_mlot", "_law_top"] spTable
  fi : Cal P w K mg base CX0 7 "_law_five_right" ["_law_size", "_law_mamount"] spFive
  pl : Cal P w K mg base CX0 7 "_law_place" ["_law_mlot"] spPlaceL
  hm : ∃ (f : Addr) (fd : FuncData), FnOk P w K mg base (L2.CX P w) 6 f fd ["lot", "amount"] (spHM1 C CB CO) ∧ mg "how_many_of_one" = some (.ref f) ∧ PySem.W.keepIn K (.ref f) = true ∧ L2.Binds K fd ["lot", "amount"] [] ∧
    KBn K fd ["lot", "amount"] 0 ["lot", "amount"] (fun _ ws => ws) (fun _ zs => zs)
  word : ∃ (g : Addr) (oc : Value) (od : Option Addr) (kV doc pm : Value) (an : Option Addr) (cdv ct : Value) (osl : Array (Option Value)), mg "_law_word" = some (.ref g) ∧ PySem.W.keepIn K (.ref g) = true ∧
    K.lookup g = some ⟨oc, od, .func (PySem.W.fnOf "_law_word" "_law_word" (defArgs sWord) (defBody sWord) (defScope sWord) .none kV doc pm an cdv ct), osl⟩ ∧ PySem.W.codeIn K cdv "_law_word" = true ∧
    L2.Binds K (PySem.W.fnOf "_law_word" "_law_word" (defArgs sWord) (defBody sWord) (defScope sWord) .none kV doc pm an cdv ct) ["_law_ask"] []
  cls : ClsW mg CE CM CN
  fC : FamW K CE CM C false
  fB : FamW K CE CM CB false
  fO : FamW K CE CM CO false
/-- the law's turn: what it knows of the heap -/
structure SK (cf fe Pt p ta : Addr) (as : List Addr) (hs fs : List Int) (H : Hp) : Prop where
  F : FeedAt cf H fe
  T : Tabs [(Pt, qLam)] H
  R : LotB H p as (ones hs)
  D : H ta = some (.lst (fs.map V.int))
  n : ta ≠ fe
section
variable {cf fe Pt p ta : Addr} {as : List Addr} {hs fs : List Int} {H H' : Hp}
theorem SK.same (x : SK cf fe Pt p ta as hs fs H) (s : Same H H') : SK cf fe Pt p ta as hs fs H' := ⟨x.F.same s, x.T.ext s, x.R.same s, s _ _ x.D, x.n⟩
theorem SK.ext (x : SK cf fe Pt p ta as hs fs H) (s : ExtN H H') (t : Tabs [(Pt, qLam)] H') : SK cf fe Pt p ta as hs fs H' := ⟨x.F.ext s, t, x.R.ext s, s _ _ x.D (fun ps z => by cases z), x.n⟩
theorem SK.kp (x : SK cf fe Pt p ta as hs fs H) (k : Kp fe H H') (F : FeedAt cf H' fe) : SK cf fe Pt p ta as hs fs H' := ⟨F, tabs_kp x.T x.F k, x.R.kp x.F k, k _ _ x.n x.D, x.n⟩
theorem SK.put {l' : Addr} {xs ys : List V} (x : SK cf fe Pt p ta as hs fs H) (h : H l' = some (.lst xs)) (n1 : l' ≠ fe) (n2 : l' ≠ cf) (n3 : l' ≠ ta) : SK cf fe Pt p ta as hs fs (upd H l' (.lst ys)) :=
  ⟨x.F.put n1 n2, tabs_list x.T h, ⟨⟨by rw [upd_ne (ne_of x.R.1.1 h (fun z => by cases z))]; exact x.R.1.1, x.R.1.2.mono fun a zs e => by rw [upd_ne (ne_of e h (fun z => by cases z))]; exact e⟩, x.R.2⟩, by rw [upd_ne (Ne.symm n3)]; exact x.D, x.n⟩
end
section
variable {P : Program} {w : World} {K : PySem.W.Frag} {mg : Str → Option Value} {base : Heap}
def spLaw (K : PySem.W.Frag) (Pt : Addr) : Sp := fun vs H Q _ => ∃ (a : Addr) (ns : List Int), vs = [.ref a] ∧ SqL K H a (ns.map V.int) ∧ ns.length ≤ 63 ∧ Tabs [(Pt, qLam)] H ∧ ∀ H', Q (.bl true) H'
theorem ok_law {f C CB CO CE CM CN c Pt : Addr} {oc : Value} {od : Option Addr} {kV doc pm : Value} {an : Option Addr} {ct : Value} {osl : Array (Option Value)}
    (lk : K.lookup f = some ⟨oc, od, .func (PySem.W.fnOf "law" "law" (defArgs sLaw) (defBody sLaw) (defScope sLaw) .none kV doc pm an (.ref c) ct), osl⟩) (hcd : PySem.W.codeIn K (.ref c) "law" = true) (T : Txt P w K mg base C CB CO CE CM CN) (TB : TabB base mg c Pt) :
    FnOk P w K mg base CX0 9 f (PySem.W.fnOf "law" "law" (defArgs sLaw) (defBody sLaw) (defScope sLaw) .none kV doc pm an (.ref c) ct) ["_law_script"] (spLaw K Pt) := by
  have B := T.B
  obtain ⟨fF, fdF, GF, gF, kF, bF⟩ := T.feed.ex
  obtain ⟨fD, fdD, GD, gD, kD, bD⟩ := T.draw.ex
  obtain ⟨fP, fdP, GP, gP, kP, bP⟩ := T.pick.ex
  obtain ⟨fGr, fdGr, GGr, gGr, kGr, bGr⟩ := T.great.ex
  obtain ⟨fS, fdS, GS, gS, kS, bS⟩ := T.same2.ex
  obtain ⟨fLo, fdLo, GLo, gLo, kLo, bLo⟩ := T.lo.ex
  obtain ⟨fTa, fdTa, GTa, gTa, kTa, bTa⟩ := T.ta.ex
  obtain ⟨fFi, fdFi, GFi, gFi, kFi, bFi⟩ := T.fi.ex
  obtain ⟨fPl, fdPl, GPl, gPl, kPl, bPl⟩ := T.pl.ex
  obtain ⟨fHM, fdHM, GHM, gHM, kHM, bHM, kbHM⟩ := T.hm
  obtain ⟨gT, toc, tod, tkV, tdoc, tpm, tan, tcdv, tct, tosl, gW, kW, lkW, cdW, bW⟩ := T.word
  refine fn_of lk hcd scLaw (fun vs H Q E h => ?_) fun A outer s H vs Q E hr h => ?_
  · obtain ⟨a, ns, rfl, _⟩ := h
    rfl
  · obtain ⟨a, ns, rfl, hS, hlen, hT, q⟩ := h
    have tl : ∀ {X : Cx} (eK : X.K = K) (em : X.mg = mg) {q : Str} {cdg : Value} {g : Addr}, AsksOf X NW "_law_word" (defScope sWord) g cdg (defBody sWord) "_law_ask" q (TTw K CE CM) := fun {X} eK em {q cdg g} => by
      subst eK em
      exact word_gives T.cls
    have build : ∃ t, PSs (cxOf CX0 P w K mg base NL "law" (defScope sLaw) f (.ref c) A outer s H E).nox (defBody sLaw) t ∧ t { nx := fun _ H' => Q .non H', rt := Q } (L2.start NL [.ref a]) H := by
      refine ⟨_, (pss_cons (ps_set (i := 1) scLaw.nd rfl (.inr rfl) (pe_call GF (hr.mono (by decide)) (by rfl) gF kF bF .nil pass0 (pa_cons (pv 0) pa_nil)))
      (pss_cons (ps_set (i := 2) scLaw.nd rfl (.inr rfl) (pe_call GLo (hr.mono (by decide)) (by rfl) gLo kLo bLo .nil pass0 (pa_cons (pv 1) (pa_cons pe_int (pa_cons pe_int (pa_cons pe_int pa_nil))))))
      (pss_cut (ps_set (i := 3) scLaw.nd rfl (.inl rfl) (pe_call GTa (hr.mono (by decide)) (by rfl) gTa kTa bTa .nil pass0 (pa_cons (pv 2) (pa_cons pe_int pa_nil))))
      (pss_cut (ps_for PassesOwn.never rfl (pi_range1 (by rfl) B.range (pa_cons pe_int pa_nil)) (pg_name (i := 4) scLaw.nd rfl (.inl rfl))
      (pss_cons (ps_set (i := 5) scLaw.nd rfl (.inl rfl) (pe_call GD (hr.mono (by decide)) (by rfl) gD kD bD .nil pass0 (pa_cons (pv 1) (pa_cons pe_int pa_nil))))
      (pss_cut (ps_if (pt_not (pt_val (pe_call GS (hr.mono (by decide)) (by rfl) gS kS bS .nil pass0 (pa_cons (pe_call GHM (hr.mono (by decide)) (by rfl) gHM kHM bHM .nil passL (pa_cons (pv 2) (pa_cons (pv 5) pa_nil))) (pa_cons (pe_ix ix_list (pv 3) (pv 5) (fun _ _ => rfl)) pa_nil))))) pss_never pss_nil)
      (pss_cut (ps_set (i := 5) scLaw.nd rfl (.inl rfl) (pe_op op_add pe_int (pe_call GGr (hr.mono (by decide)) (by rfl) gGr kGr bGr .nil pass0 (pa_cons (pv 1) pa_nil))))
      (pss_cut (ps_set (i := 6) scLaw.nd rfl (.inr rfl) (pe_call GD (hr.mono (by decide)) (by rfl) gD kD bD .nil pass0 (pa_cons (pv 1) (pa_cons (pe_callB call_len_seq (by rfl) B.len PySem.boot_len (pa_cons (pv 2) pa_nil)) pa_nil))))
      (pss_cut (ps_if (pt_cmpR op_gt (pe_callB call_len_seq (by rfl) B.len PySem.boot_len (pa_cons (pv 2) pa_nil)) pe_int (nomark _)) (pss_cons (ps_set (i := 7) scLaw.nd rfl (.inl rfl) (pe_callTy call_tuple_of (by rfl) B.tuple (by decide +kernel) (pa_cons (pe_lc (own := [("_law_at", 11)]) (g := gName 11) (tt := tTest (tOp rNe (tVar 11) (tVar 6))) rfl scLaw.nd (pi_range1 (by rfl) B.range (pa_cons (pe_callB call_len_seq (by rfl) B.len PySem.boot_len (pa_cons (pv 2) pa_nil)) pa_nil))
        (blkOk_by (own := [("_law_at", 11)]) (N := NL) (sc := defScope sLaw) (by decide +kernel)) (fun _ _ _ _ _ => pg_name (i := 11) scLaw.nd rfl (Or.inl rfl)) (fun _ _ _ _ _ => pts_one (pt_cmpR op_ne (pv 11) (pv 6) (nomark _)))
        (fun _ _ _ _ _ => (pe_ix (r := rIxT K) ix_tup (pv 2) (pv 11) (fun _ _ => rfl)))) pa_nil)))
      (pss_cons (ps_set (i := 8) scLaw.nd rfl (.inl rfl) (pe_op op_add (pe_call GHM (hr.mono (by decide)) (by rfl) gHM kHM bHM .nil passL (pa_cons (pv 7) (pa_cons (pv 5) pa_nil))) (pe_call GHM (hr.mono (by decide)) (by rfl) gHM kHM bHM .nil passL (pa_cons (pv 2) (pa_cons (pe_op op_sub (pv 5) (pe_ix ix_tup (pe_ix ix_tup (pv 2) (pv 6) (fun _ _ => rfl)) pe_int (fun _ _ => rfl))) pa_nil)))))
      (pss_one (ps_if (pt_not (pt_val (pe_call GS (hr.mono (by decide)) (by rfl) gS kS bS .nil pass0 (pa_cons (pe_kw0 GHM (hr.mono (by decide)) (by rfl) gHM kHM kbHM passL (pk_cons (pv 2) (pk_cons (pv 5) pk_nil))) (pa_cons (pv 8) pa_nil))))) pss_never pss_nil)))) pss_nil)
      (pss_cut (ps_set (i := 9) scLaw.nd rfl (.inl rfl) (pe_op op_add pe_int (pe_call GD (hr.mono (by decide)) (by rfl) gD kD bD .nil pass0 (pa_cons (pv 1) (pa_cons pe_int pa_nil)))))
      (pss_cut (ps_if (pt_not (pt_val (pe_call GFi (hr.mono (by decide)) (by rfl) gFi kFi bFi .nil pass0 (pa_cons (pv 9) (pa_cons (pv 5) pa_nil))))) pss_never pss_nil)
      (pss_cut (ps_set (i := 8) scLaw.nd rfl (.inl rfl) (pe_lst (pa_cons (pe_callTy call_int1 (by rfl) B.int (by decide +kernel) (pa_cons (pe_cmpR op_eq (pe_op op_mod (pv 5) (pv 9)) pe_int (nomark _)) pa_nil)) (pa_cons (pe_op op_mul (pe_op op_add (pe_op op_fdiv (pv 5) (pv 9)) pe_int) (pe_callTy call_int1 (by rfl) B.int (by decide +kernel) (pa_cons (pe_cmpR op_eq (pe_op op_mod (pv 5) (pv 9)) pe_int (nomark _)) pa_nil))) pa_nil))))
      (pss_one (ps_if (pt_not (pt_val (pe_call GS (hr.mono (by decide)) (by rfl) gS kS bS .nil pass0 (pa_cons (pe_lst (pa_cons (pe_call GHM (hr.mono (by decide)) (by rfl) gHM kHM bHM .nil passL (pa_cons (pe_tup (pa_cons (pe_tup (pa_cons (pv 9) pa_nil)) pa_nil)) (pa_cons (pv 5) pa_nil))) (pa_cons (pe_call GHM (hr.mono (by decide)) (by rfl) gHM kHM bHM .nil passL (pa_cons (pe_op op_repT (pe_tup (pa_cons (pe_tup (pa_cons (pv 9) pa_nil)) pa_nil)) pe_int) (pa_cons (pv 5) pa_nil))) pa_nil))) (pa_cons (pv 8) pa_nil))))) pss_never pss_nil)))))))))))
      (pss_cut (ps_if (pt_not (pt_val (pe_call GS (hr.mono (by decide)) (by rfl) gS kS bS .nil pass0 (pa_cons (pe_call GHM (hr.mono (by decide)) (by rfl) gHM kHM bHM .nil passL (pa_cons (pe_tup (pa_cons (pe_tup (pa_cons pe_int pa_nil)) (pa_cons (pe_tup (pa_cons pe_int pa_nil)) pa_nil))) (pa_cons (pe_op op_sub (pe_op op_pow pe_int pe_int) pe_int) pa_nil))) (pa_cons (pe_op op_mul pe_int (pe_op op_pow pe_int pe_int)) pa_nil))))) pss_never pss_nil)
      (pss_cut (ps_set (i := 10) scLaw.nd rfl (.inl rfl) (pe_lst (pa_cons (pe_askcall (k := 6) (T := [(Pt, qLam)]) (TT := TTw K CE CM) (t := (fun E => tCall (spHM1 C CB CO) [] E (tCons (tVar 2) (tCons (tCall spPick [] E0 (tCons (tVar 1) (tCons (tLst (tCons (tUn (rU fun i => .int (-i)) (tC (.int 1))) (tCons (tOp (rI CPow fun i j => .int (i ^ j.toNat)) (tC (.int 10)) (tC (.int 30))) (tCons (tUn (rU fun i => .int (-i)) (tOp (rI CPow fun i j => .int (i ^ j.toNat)) (tC (.int 10)) (tC (.int 30)))) tNil)))) tNil))) tNil)))) (by rfl) gW kW lkW cdW bW scWord rfl (.inl rfl) (tl rfl rfl) TB rfl List.mem_cons_self (fun p hp _ => by rw [List.mem_singleton.mp hp]; rfl) hr (lamS_by (sc := defScope sLaw) (by decide +kernel)) rfl (fun _ _ _ _ _ => rfl)
              (fun A outer s H E f c' hr2 => pe_call GHM (hr2.mono (by decide)) (by rfl) gHM kHM bHM .nil (passes_call (takes_of rfl rfl rfl rfl) (fun _ _ _ _ h => h)) (pa_cons (pv 2) (pa_cons (pe_call GP (hr2.mono (by decide)) (by rfl) gP kP bP .nil pass0 (pa_cons (pv 1) (pa_cons (pe_lst (pa_cons (pe_un un_neg pe_int) (pa_cons (pe_op op_pow pe_int pe_int) (pa_cons (pe_un un_neg (pe_op op_pow pe_int pe_int)) pa_nil)))) pa_nil))) pa_nil)))) pa_nil)))
      (pss_cut (ps_expr (pe_bm PySem.F.plainAttrs_list PySem.F.slot_list_append PySem.F.type_list_append mt_append (pv 10) (pa_cons (pe_askcall (k := 6) (T := [(Pt, qLam)]) (TT := TTw K CE CM) (t := (fun E => tCall (spHM1 C CB CO) [] E (tCons (tTup (tCons (tTup (tCons (tC (.int 1)) (tCons (tC (.int 0)) tNil))) tNil)) (tCons (tUn (rU fun i => .int (-i)) (tC (.int 1))) tNil)))) (by rfl) gW kW lkW cdW bW scWord rfl (.inl rfl) (tl rfl rfl) TB rfl List.mem_cons_self (fun p hp _ => by rw [List.mem_singleton.mp hp]; rfl) hr (lamS_by (sc := defScope sLaw) (by decide +kernel)) rfl (fun _ _ _ _ _ => rfl)
              (fun A outer s H E f c' hr2 => pe_call GHM (hr2.mono (by decide)) (by rfl) gHM kHM bHM .nil (passes_call (takes_of rfl rfl rfl rfl) (fun _ _ _ _ h => h)) (pa_cons (pe_tup (pa_cons (pe_tup (pa_cons pe_int (pa_cons pe_int pa_nil))) pa_nil)) (pa_cons (pe_un un_neg pe_int) pa_nil)))) pa_nil)))
      (pss_cut (ps_expr (pe_bm PySem.F.plainAttrs_list PySem.F.slot_list_append PySem.F.type_list_append mt_append (pv 10) (pa_cons (pe_askcall (k := 6) (T := [(Pt, qLam)]) (TT := TTw K CE CM) (t := (fun E => tCall (spHM1 C CB CO) [] E (tCons (tTup tNil) (tCons (tUn (rU fun i => .int (-i)) (tC (.int 1))) tNil)))) (by rfl) gW kW lkW cdW bW scWord rfl (.inl rfl) (tl rfl rfl) TB rfl List.mem_cons_self (fun p hp _ => by rw [List.mem_singleton.mp hp]; rfl) hr (lamS_by (sc := defScope sLaw) (by decide +kernel)) rfl (fun _ _ _ _ _ => rfl)
              (fun A outer s H E f c' hr2 => pe_call GHM (hr2.mono (by decide)) (by rfl) gHM kHM bHM .nil (passes_call (takes_of rfl rfl rfl rfl) (fun _ _ _ _ h => h)) (pa_cons (pe_tup pa_nil) (pa_cons (pe_un un_neg pe_int) pa_nil)))) pa_nil)))
      (pss_one (ps_ret (pe_and (pe_cmpR (op_eqD hr.units) (pv 10) (pe_lst (pa_cons (pe_tup (pa_cons pe_non (pa_cons pe_str pa_nil))) (pa_cons (pe_tup (pa_cons pe_non (pa_cons pe_str pa_nil))) (pa_cons (pe_tup (pa_cons pe_non (pa_cons pe_str pa_nil))) pa_nil)))) (nomark _)) (pe_one (pe_cmpR op_eq (pe_call GPl (hr.mono (by decide)) (by rfl) gPl kPl bPl .nil pass0 (pa_cons (pv 2) pa_nil)) pe_int (nomark _)))))))))))))), ?_⟩
      refine ⟨.ref a, rfl, a, ns, rfl, hS, hlen, fun H1 fe cf s1 nf F1 => ?_⟩
      refine ⟨.ref fe, rfl, fe, cf, 1, 5, 6, rfl, F1, by decide, by decide, by decide, by decide, by decide, by decide, fun H2 p ll k2 F2 _ ⟨as, hp, hR⟩ gl => ?_⟩
      have T2 := tabs_kp (hT.ext s1) F1 k2
      have ef := good_flaw (g := 1) (m := 6) (by decide) (by decide) (by decide) gl
      have hw : width ll = 1 := by
        obtain ⟨h1, _, h3⟩ := gl
        cases ll with
        | nil => simp at h1
        | cons r rs => exact (h3 r List.mem_cons_self).1
      have hok := flaw_ok ef
      obtain ⟨hs, rfl, hsl, hsb⟩ := ones_of ef hw
      have hp0 : ∀ x ∈ hs, 0 < x := fun x hx => by have := hsb x hx; omega
      have hal := hR.len
      have hLB : ∀ H', RowsAt H' p as (ones hs) → LotB H' p as (ones hs) := fun H' h => ⟨h, by omega, fun r hr => by obtain ⟨x, _, rfl⟩ := List.mem_map.mp hr; show 1 ≤ 100; decide⟩
      -- the table
      refine ⟨fun σ' H' => ∃ (ta : Addr) (fs : List Int), (∃ y4 y5 y6 y7 y8 y9 y10, σ' = [some (.ref a), some (.ref fe), some (.ref p), some (.ref ta), y4, y5, y6, y7, y8, y9, y10, none]) ∧ SK cf fe Pt p ta as hs fs H' ∧ fs.length = 401 ∧ ∀ j : Nat, j ≤ 400 → fs.getD j 0 = (cnt (ones hs) [(j : Int)] : Nat), ?_, ?_⟩
      · refine ⟨.ref p, rfl, p, as, hs, 400, rfl, ⟨hp, hR⟩, hsb, by omega, by decide, by decide, fun H3 ta fs s3 nta hta hfl hft => ?_⟩
        exact ⟨ta, fs, ⟨_, _, _, _, _, _, _, rfl⟩, ⟨F2.same s3, T2.ext s3, hLB _ (RowsAt.same ⟨hp, hR⟩ s3), hta, F2.ne nta⟩, hfl, hft⟩
      rintro σ' H3 ⟨ta, fs, ⟨y4, y5, y6, y7, y8, y9, y10, rfl⟩, X3, hfl, hft⟩
      -- how many of a good lot and a good amount
      have hs1 : 1 ≤ hs.length := by omega
      have hs5 : hs.length ≤ 5 := by omega
      obtain ⟨fl1, fl2⟩ := flaw_ones hs1 hs5 hsb
      refine ⟨fun σ' H' => (∃ y4 y5 y6 y7 y8 y9 y10, σ' = [some (.ref a), some (.ref fe), some (.ref p), some (.ref ta), y4, y5, y6, y7, y8, y9, y10, none]) ∧ SK cf fe Pt p ta as hs fs H', ?_, ?_⟩
      · refine ⟨4, rfl, by decide, by decide, ?_⟩
        refine for_range (lo := 0) (n := 4) (fun i σ' H' => (∃ y4 y5 y6 y7 y8 y9 y10, σ' = [some (.ref a), some (.ref fe), some (.ref p), some (.ref ta), y4, y5, y6, y7, y8, y9, y10, none]) ∧ SK cf fe Pt p ta as hs fs H') ⟨⟨_, _, _, _, _, _, _, rfl⟩, X3⟩ (fun i σ H4 hi hI => ?_) (fun σ H4 hI => hI)
        obtain ⟨⟨y4, y5, y6, y7, y8, y9, y10, rfl⟩, X4⟩ := hI
        refine ⟨.ref fe, rfl, fe, cf, 401, rfl, by decide, by decide, X4.F, fun d H5 d0 d1 k5 F5 => ?_⟩
        have X5 := X4.kp k5 F5
        refine ⟨fun σ' H' => (∃ y4 y5 y6 y7 y8 y9 y10, σ' = [some (.ref a), some (.ref fe), some (.ref p), some (.ref ta), y4, y5, y6, y7, y8, y9, y10, none]) ∧ SK cf fe Pt p ta as hs fs H', ?_, ?_⟩
        · refine ⟨.ref p, rfl, .int d, rfl, p, as, ones hs, d, rfl, X5.R, fun k hq => (by rw [fl1] at hq; cases hq), fun _ z => absurd fl2 z, fun _ _ k hq => (by rw [fl2, right_one d0 (show d < 1000000000000000000000000000000 by omega)] at hq; cases hq), fun _ _ _ H6 s6 => ?_⟩
          have X6 := X5.same s6
          have hd : d = ((d.toNat : Nat) : Int) := by omega
          have hat : atI (fs.map V.int) d = some (.int (cnt (ones hs) [d] : Nat)) := by
            have := atIT (xs := fs) (i := d.toNat) (by omega)
            rw [hft d.toNat (by omega), ← hd] at this
            exact this
          exact ⟨.ref ta, rfl, .int d, rfl, ta, _, d, _, rfl, rfl, SqL.of X6.D, hat, _, _, rfl, eqd_leaf rfl, fun H7 s7 => ⟨_, rfl, iteF ⟨⟨_, _, _, _, _, _, _, rfl⟩, X6.same s7⟩⟩⟩
        clear X4 X5 F5 k5
        rintro σ' H5 ⟨⟨y4, y5, y6, y7, y8, y9, y10, rfl⟩, X5⟩
        -- a great amount
        refine ⟨fun σ' H' => ∃ b : Int, (∃ y4 y6 y7 y8 y9 y10, σ' = [some (.ref a), some (.ref fe), some (.ref p), some (.ref ta), y4, some (.int b), y6, y7, y8, y9, y10, none]) ∧ SK cf fe Pt p ta as hs fs H' ∧ 6 ≤ b ∧ b < 100000000000000000000000000006, ?_, ?_⟩
        · refine ⟨.ref fe, rfl, fe, cf, rfl, X5.F, fun d H6 d0 d1 k6 F6 => ⟨6, d, rfl, rfl, ?_⟩⟩
          exact ⟨6 + d, ⟨_, _, _, _, _, _, rfl⟩, X5.kp k6 F6, by omega, by omega⟩
        clear X5
        rintro σ' H5 ⟨b, ⟨y4, y6, y7, y8, y9, y10, rfl⟩, X5, b6, b30⟩
        have bg : b < G30 := by show b < 1000000000000000000000000000000; omega
        refine ⟨fun σ' H' => ∃ kd : Nat, (∃ y4 y7 y8 y9 y10, σ' = [some (.ref a), some (.ref fe), some (.ref p), some (.ref ta), y4, some (.int b), some (.int (kd : Int)), y7, y8, y9, y10, none]) ∧ SK cf fe Pt p ta as hs fs H' ∧ kd < hs.length, ?_, ?_⟩
        · refine ⟨.ref fe, rfl, .ref p, rfl, p, _, rfl, .inr (SqT.of X5.R.1.1), fe, cf, _, rfl, by rw [List.length_map]; omega, by rw [List.length_map]; omega, X5.F, fun d H6 d0 d1 k6 F6 => ?_⟩
          rw [List.length_map] at d1
          obtain ⟨kd, rfl⟩ : ∃ kd : Nat, d = (kd : Int) := ⟨d.toNat, by omega⟩
          exact ⟨kd, ⟨_, _, _, _, _, rfl⟩, X5.kp k6 F6, by omega⟩
        clear X5
        rintro σ' H5 ⟨kd, ⟨y4, y7, y8, y9, y10, rfl⟩, X5, hkd⟩
        obtain ⟨hk, ehk⟩ : ∃ h, hs[kd]? = some h := ⟨_, List.getElem?_eq_getElem hkd⟩
        obtain ⟨hk1, hk6⟩ := hsb hk (List.mem_of_getElem? ehk)
        refine ⟨fun σ' H' => (∃ y4 y6 y7 y8 y9 y10, σ' = [some (.ref a), some (.ref fe), some (.ref p), some (.ref ta), y4, some (.int b), y6, y7, y8, y9, y10, none]) ∧ SK cf fe Pt p ta as hs fs H', ?_, ?_⟩
        · refine ⟨.ref p, rfl, p, _, rfl, .inr (SqT.of X5.R.1.1), _, 1, rfl, rfl, _, rfl, ite2 (fun c1 => ?_) (fun c1 => ⟨⟨_, _, _, _, _, _, rfl⟩, X5⟩)⟩
          have hmany : 1 < as.length := by
            have := of_decide_eq_true c1
            rw [List.length_map] at this
            omega
          refine ⟨.ref p, rfl, p, _, rfl, .inr (SqT.of X5.R.1.1), _, rfl, by rw [List.length_map]; omega, by rw [List.length_map]; omega, fun D nD => ?_⟩
          rw [List.length_map]
          refine lc_range (lo := 0) (n := ((as.length : Nat) : Int).toNat) (fun i H' => Same H5 H' ∧ H' D = some (.lst ((cutA as kd i).map V.ref))) ⟨same_new nD, by rw [upd_same]; simp [cutA]⟩ (fun i H6 hi ⟨s6, hD⟩ => ?_) (fun H6 ⟨s6, hD⟩ => ?_)
          · have hi' : i < as.length := by omega
            have ez : (0 : Int) + (i : Nat) = ((i : Nat) : Int) := by omega
            rw [ez]
            have hai : as[i]? = some as[i] := List.getElem?_eq_getElem hi'
            have hat : atI (as.map V.ref) ((i : Nat) : Int) = some (.ref as[i]) := atI_nat (by rw [List.getElem?_map, hai]; rfl)
            refine ⟨rfl, .int (i : Int), rfl, .int (kd : Int), rfl, rfl, _, rfl, ite2 (fun c2 => ?_) (fun c2 => ?_)⟩
            · have hne : i ≠ kd := fun e => by
                rw [e, decide_eq_true rfl] at c2
                cases c2
              have eb := cutA_more (kd := kd) hai hne
              refine ⟨.ref p, rfl, .int (i : Int), rfl, p, _, _, _, rfl, rfl, SqT.of (X5.R.same s6).1.1, hat, _, hD, ?_, same_late s6 nD, ?_⟩
              · rw [List.length_map]
                exact small1000 (Nat.le_trans cutA_len (by omega))
              · rw [upd_same, eb, List.map_append]
                rfl
            · have hke : i = kd := by
                by_cases e : i = kd
                · exact e
                · rw [decide_eq_false (fun z => e (by have := V.int.inj z; omega))] at c2
                  exact absurd rfl c2
              subst hke
              have eb := cutA_skip hai
              rw [eb]
              exact ⟨s6, hD⟩
          · rw [Int.toNat_natCast] at hD
            rw [cutA_all] at hD
            refine ⟨D, _, rfl, .inl ⟨SqL.of hD, fun t nt => ?_⟩⟩
            have st := s6.trans (same_new (o := .tup ((as.take kd ++ as.drop (kd + 1)).map V.ref)) nt)
            have X7 := X5.same st
            have RL : LotB (upd H6 t (.tup ((as.take kd ++ as.drop (kd + 1)).map V.ref))) t (as.take kd ++ as.drop (kd + 1)) (ones (hs.take kd ++ hs.drop (kd + 1))) := by
              refine ⟨⟨upd_same, ?_⟩, ?_, fun r hr => by obtain ⟨x, _, rfl⟩ := List.mem_map.mp hr; show 1 ≤ 100; decide⟩
              · rw [← ones_take]
                exact (X7.R.1.2.takeN kd).app (X7.R.1.2.dropN (kd + 1))
              · rw [List.length_map, List.length_append, List.length_take, List.length_drop]
                omega
            have hll : (hs.take kd ++ hs.drop (kd + 1)).length = hs.length - 1 := by
              rw [List.length_append, List.length_take, List.length_drop]
              omega
            obtain ⟨fk1, fk2⟩ := flaw_ones (hs := hs.take kd ++ hs.drop (kd + 1)) (by omega) (by omega) fun h hh => hsb h ((List.mem_append.mp hh).elim List.mem_of_mem_take List.mem_of_mem_drop)
            refine ⟨.ref t, rfl, .int b, rfl, t, (as.take kd ++ as.drop (kd + 1)), ones (hs.take kd ++ hs.drop (kd + 1)), b, rfl, RL, fun k hq => (by rw [fk1] at hq; cases hq), fun _ z => absurd fk2 z, fun _ _ k hq => (by rw [fk2, right_one (by omega) bg] at hq; cases hq), fun _ _ _ H8 s8 => ?_⟩
            have X8 := X7.same s8
            obtain ⟨ak, hak⟩ : ∃ c, as[kd]? = some c := ⟨_, List.getElem?_eq_getElem (by omega)⟩
            obtain ⟨r, hr1, hr2⟩ := X8.R.1.2.at hak
            have er : r = [hk] := by
              rw [List.getElem?_map, ehk] at hr1
              exact (Option.some.inj hr1).symm
            subst er
            have hat : atI (as.map V.ref) ((kd : Nat) : Int) = some (.ref ak) := atI_nat (by rw [List.getElem?_map, hak]; rfl)
            refine ⟨.ref p, rfl, .int b, rfl, .ref p, rfl, .int (kd : Int), rfl, p, _, _, _, rfl, rfl, SqT.of X8.R.1.1, hat, ak, _, 0, .int hk, rfl, rfl, SqT.of hr2, rfl, b, hk, rfl, rfl, p, as, ones hs, (b - hk), rfl, X8.R, fun k hq => (by rw [fl1] at hq; cases hq), fun _ z => absurd fl2 z, fun _ _ k hq => (by rw [fl2, right_one (by omega) (show b - hk < 1000000000000000000000000000000 by omega)] at hq; cases hq), fun _ _ _ H9 s9 => ?_⟩
            have X9 := X8.same s9
            refine ⟨_, _, rfl, rfl, ?_⟩
            refine ⟨.ref p, rfl, .int b, rfl, rfl, rfl, p, as, ones hs, b, rfl, X9.R, fun k hq => (by rw [fl1] at hq; cases hq), fun _ z => absurd fl2 z, fun _ _ k hq => (by rw [fl2, right_one (by omega) bg] at hq; cases hq), fun _ _ _ H10 s10 => ?_⟩
            have X10 := X9.same s10
            have hc := cnt_cut (g := 1) (l := ones hs) (b := [b]) (i := kd) (h := [hk]) (kd_one hp0) rfl (by rw [List.getElem?_map, ehk]; rfl)
            have e2 : subR [b] [hk] 1 = [b - hk] := by simp [subR]
            rw [e2, ones_take] at hc
            rw [hc, Int.natCast_add]
            exact ⟨_, rfl, _, _, rfl, eqd_leaf rfl, fun H11 s11 => ⟨_, rfl, iteF ⟨⟨_, _, _, _, _, _, rfl⟩, X10.same s11⟩⟩⟩
        clear X5
        rintro σ' H5 ⟨⟨y4, y6, y7, y8, y9, y10, rfl⟩, X5⟩
        refine ⟨fun σ' H' => ∃ s : Int, (∃ y4 y6 y7 y8 y10, σ' = [some (.ref a), some (.ref fe), some (.ref p), some (.ref ta), y4, some (.int b), y6, y7, y8, some (.int s), y10, none]) ∧ SK cf fe Pt p ta as hs fs H' ∧ 1 ≤ s ∧ s ≤ 6, ?_, ?_⟩
        · refine ⟨.ref fe, rfl, fe, cf, 6, rfl, by decide, by decide, X5.F, fun d H6 d0 d1 k6 F6 => ⟨1, d, rfl, rfl, ?_⟩⟩
          exact ⟨1 + d, ⟨_, _, _, _, _, rfl⟩, X5.kp k6 F6, by omega, by omega⟩
        clear X5
        rintro σ' H5 ⟨s, ⟨y4, y6, y7, y8, y10, rfl⟩, X5, sz1, sz6⟩
        refine ⟨fun σ' H' => (∃ y4 y6 y7 y8 y10, σ' = [some (.ref a), some (.ref fe), some (.ref p), some (.ref ta), y4, some (.int b), y6, y7, y8, some (.int s), y10, none]) ∧ SK cf fe Pt p ta as hs fs H', ?_, ?_⟩
        · exact ⟨.int s, rfl, .int b, rfl, s, b, rfl, sz1, sz6, by omega, bg, fun H6 s6 => ⟨_, rfl, iteF ⟨⟨_, _, _, _, _, rfl⟩, X5.same s6⟩⟩⟩
        clear X5
        rintro σ' H5 ⟨⟨y4, y6, y7, y8, y10, rfl⟩, X5⟩
        have c1 := cnt_alike (h := s) (by omega) 1 b (by omega)
        have c2 := cnt_alike (h := s) (by omega) 2 b (by omega)
        have kb0 : 0 ≤ b / s := Int.ediv_nonneg (by omega) (by omega)
        rw [Bm_two] at c2
        have c1' : (cnt (ones [s]) [b] : Int) = if b % s = 0 then 1 else 0 := by
          have e : Bm 1 (b / s).toNat = 1 := by
            show ((ch _ 0 : Nat) : Int) = 1
            rw [ch_zero]
            rfl
          rw [e] at c1
          exact c1
        have c2' : (cnt (ones [s, s]) [b] : Int) = (b / s + 1) * (if b % s = 0 then 1 else 0) := by
          have e : (((b / s).toNat : Nat) : Int) = b / s := by omega
          rw [e] at c2
          have c2x : (cnt (ones [s, s]) [b] : Int) = if b % s = 0 then b / s + 1 else 0 := c2
          rw [c2x]
          split <;> omega
        refine ⟨fun σ' H' => ∃ dl : Addr, (∃ y4 y6 y7 y10, σ' = [some (.ref a), some (.ref fe), some (.ref p), some (.ref ta), y4, some (.int b), y6, y7, some (.ref dl), some (.int s), y10, none]) ∧ SK cf fe Pt p ta as hs fs H' ∧ H' dl = some (.lst [.int (cnt (ones [s]) [b] : Nat), .int (cnt (ones [s, s]) [b] : Nat)]), ?_, ?_⟩
        · refine ⟨.int b, rfl, .int s, rfl, b, s, rfl, rfl, (show (0 : Int) < s by omega), rfl, .inr ⟨_, rfl, ?_⟩⟩
          refine ⟨.int b, rfl, .int s, rfl, b, s, rfl, rfl, ⟨by omega, by omega⟩, _, 1, rfl, rfl, .int b, rfl, .int s, rfl, b, s, rfl, rfl, (show (0 : Int) < s by omega), rfl, .inr ⟨_, rfl, ?_⟩⟩
          have eb : (if decide (V.int (b % s) = V.int 0) = true then (1 : Int) else 0) = if b % s = 0 then 1 else 0 := by
            by_cases e : b % s = 0
            · rw [if_pos e, if_pos (decide_eq_true (by rw [e]))]
            · rw [if_neg e, if_neg (fun z => e (V.int.inj (of_decide_eq_true z)))]
          refine ⟨_, _, rfl, rfl, .inr ?_, sz_2 _ _, fun dl ndl => ?_⟩
          · show _ < (if decide (V.int (b % s) = V.int 0) = true then (1 : Int) else 0) ∧ (if decide (V.int (b % s) = V.int 0) = true then (1 : Int) else 0) < _
            split <;> omega
          refine ⟨dl, ⟨_, _, _, _, rfl⟩, X5.same (same_new ndl), ?_⟩
          rw [upd_same, c1', c2']
          show some (HO.lst [V.int (if decide (V.int (b % s) = V.int 0) = true then (1 : Int) else 0), V.int ((b / s + 1) * (if decide (V.int (b % s) = V.int 0) = true then (1 : Int) else 0))]) = _
          rw [eb]
        clear X5
        rintro σ' H5 ⟨dl, ⟨y4, y6, y7, y10, rfl⟩, X5, hdl⟩
        have fs1 := flaw_ones (hs := [s]) (by show 1 ≤ 1; decide) (by show 1 ≤ 5; decide) fun h hh => by rw [List.mem_singleton.mp hh]; exact ⟨sz1, sz6⟩
        have fs2 := flaw_ones (hs := [s, s]) (by show 1 ≤ 2; decide) (by show 2 ≤ 5; decide) fun h hh => by
          have e : h = s ∨ h = s := by simpa using hh
          rcases e with e | e <;> (rw [e]; exact ⟨sz1, sz6⟩)
        have sb : ∀ (n : Nat) (h : Int), h ∈ List.replicate n s → 1 ≤ h ∧ h ≤ 6 := fun n h hh => by rw [List.eq_of_mem_replicate hh]; exact ⟨sz1, sz6⟩
        refine ⟨.int s, rfl, sz_1 _, fun t1 nt1 => ⟨sz_1 _, fun t2 nt2 => ?_⟩⟩
        have st1 := same_new (o := .tup [.int s]) nt1
        have st2 := same_new (o := .tup [.ref t1]) nt2
        have g1 : IntsAt (upd (upd H5 t1 (.tup [.int s])) t2 (.tup [.ref t1])) t1 [s] := st2 _ _ upd_same
        refine ⟨.int b, rfl, t2, [t1], ones [s], b, rfl, ⟨⟨upd_same, g1, True.intro⟩, (by show 1 ≤ 100; decide), fun r hr => by obtain ⟨x, _, rfl⟩ := List.mem_map.mp hr; show 1 ≤ 100; decide⟩, fun k hq => (by rw [fs1.1] at hq; cases hq), fun _ z => absurd fs1.2 z, fun _ _ k hq => (by rw [fs1.2, right_one (by omega) bg] at hq; cases hq), fun _ _ _ H6 s6 => ?_⟩
        have s56 := st1.trans (st2.trans s6)
        refine ⟨.int s, rfl, sz_1 _, fun t3 nt3 => ⟨sz_1 _, fun t4 nt4 => ?_⟩⟩
        have st3 := same_new (o := .tup [.int s]) nt3
        have st4 := same_new (o := .tup [.ref t3]) nt4
        refine ⟨t4, 2, _, rfl, rfl, SqT.of upd_same, (fun z => by cases z), by decide, by decide, (by show 1 ≤ 1000; decide), fun t5 nt5 => ?_⟩
        have st5 := same_new (o := .tup (List.replicate (2 : Int).toNat [V.ref t3]).flatten) nt5
        have g3 : IntsAt (upd (upd (upd H6 t3 (.tup [.int s])) t4 (.tup [.ref t3])) t5 (.tup (List.replicate (2 : Int).toNat [V.ref t3]).flatten)) t3 [s] := st5 _ _ (st4 _ _ upd_same)
        refine ⟨.int b, rfl, t5, [t3, t3], ones [s, s], b, rfl, ⟨⟨upd_same, g3, g3, True.intro⟩, (by show 2 ≤ 100; decide), fun r hr => by obtain ⟨x, _, rfl⟩ := List.mem_map.mp hr; show 1 ≤ 100; decide⟩, fun k hq => (by rw [fs2.1] at hq; cases hq), fun _ z => absurd fs2.2 z, fun _ _ k hq => (by rw [fs2.2, right_one (by omega) bg] at hq; cases hq), fun _ _ _ H7 s7 => ?_⟩
        have s57 := s56.trans (st3.trans (st4.trans (st5.trans s7)))
        refine ⟨sz_2 _ _, fun fl nfl => ?_⟩
        have sf := same_new (o := .lst [.int (cnt (ones [s]) [b] : Nat), .int (cnt (ones [s, s]) [b] : Nat)]) nfl
        refine ⟨.ref dl, rfl, .ref fl, .ref dl, rfl, .inr ⟨fl, dl, _, _, rfl, rfl, .inl ⟨upd_same, sf _ _ (s57 _ _ hdl)⟩, rfl, (by show 2 ≤ 1000; decide), fun j x y e1 e2 => ?_⟩, fun H8 s8 => ⟨_, rfl, iteF ⟨⟨_, _, _, _, _, _, _, rfl⟩, (X5.same (s57.trans sf)).same s8⟩⟩⟩
        rw [e1] at e2
        cases e2
        have hm := List.mem_of_getElem? e1
        have hm' : x = .int (cnt (ones [s]) [b] : Nat) ∨ x = .int (cnt (ones [s, s]) [b] : Nat) := by simpa using hm
        rcases hm' with e | e <;> (rw [e]; exact eqd_leaf rfl)
      clear X3
      rintro σ' H3 ⟨⟨y4, y5, y6, y7, y8, y9, y10, rfl⟩, X3⟩
      -- ones and twos
      refine ⟨fun σ' H' => (∃ y4 y5 y6 y7 y8 y9 y10, σ' = [some (.ref a), some (.ref fe), some (.ref p), some (.ref ta), y4, y5, y6, y7, y8, y9, y10, none]) ∧ SK cf fe Pt p ta as hs fs H', ?_, ?_⟩
      · refine ⟨sz_1 _, fun t1 nt1 => ⟨sz_1 _, fun t2 nt2 => ⟨sz_2 _ _, fun t3 nt3 => ?_⟩⟩⟩
        have st1 := same_new (o := .tup [.int 1]) nt1
        have st2 := same_new (o := .tup [.int 2]) nt2
        have st3 := same_new (o := .tup [.ref t1, .ref t2]) nt3
        have e30 : (10 : Int) ^ (30 : Int).toNat - 1 = 2 * ((499999999999999999999999999999 : Nat) : Int) + 1 := by decide
        have e29 : 5 * (10 : Int) ^ (29 : Int).toNat = ((499999999999999999999999999999 + 1 : Nat) : Int) := by decide
        refine ⟨10, 30, rfl, rfl, ⟨by decide, by decide, by decide⟩, _, 1, rfl, rfl, ?_⟩
        have f12 := flaw_ones (hs := [1, 2]) (by decide) (by decide) fun h hh => by
          have e : h = 1 ∨ h = 2 := by simpa using hh
          omega
        refine ⟨t3, [t1, t2], ones [1, 2], _, rfl, ⟨⟨upd_same, st3 _ _ (st2 _ _ upd_same), st3 _ _ upd_same, True.intro⟩, (by show 2 ≤ 100; decide), fun r hr => by obtain ⟨x, _, rfl⟩ := List.mem_map.mp hr; show 1 ≤ 100; decide⟩, fun k hq => (by rw [f12.1] at hq; cases hq), fun _ z => absurd f12.2 z, fun _ _ k hq => (by rw [f12.2, right_one (by decide) (by decide)] at hq; cases hq), fun _ _ _ H6 s6 => ?_⟩
        rw [e30, cnt_twos]
        refine ⟨10, 29, rfl, rfl, ⟨by decide, by decide, by decide⟩, 5, _, rfl, rfl, .inl ⟨by decide, by decide⟩, ?_⟩
        refine ⟨_, _, rfl, ?_, fun H7 s7 => ⟨_, rfl, iteF ⟨⟨_, _, _, _, _, _, _, rfl⟩, X3.same (st1.trans (st2.trans (st3.trans (s6.trans s7))))⟩⟩⟩
        show Eqd _ 2 _ (V.int (5 * (10 : Int) ^ (29 : Int).toNat))
        rw [e29]
        exact eqd_leaf rfl
      clear X3
      rintro σ' H3 ⟨⟨y4, y5, y6, y7, y8, y9, y10, rfl⟩, X3⟩
      -- refusals
      refine ⟨fun σ' H' => ∃ (wl u1 : Addr), (∃ y3 y4 y5 y6 y7 y8 y9, σ' = [some (.ref a), some (.ref fe), some (.ref p), y3, y4, y5, y6, y7, y8, y9, some (.ref wl), none]) ∧ SK cf fe Pt p ta as hs fs H' ∧ H' wl = some (.lst [.ref u1]) ∧ H' u1 = some (.tup [.non, .str "bad bill"]) ∧ wl ≠ fe ∧ wl ≠ cf ∧ wl ≠ ta, ?_, ?_⟩
      · refine ⟨X3.T, fun H4 e4 T4 => ?_⟩
        have X4 := X3.ext e4 T4
        refine ⟨.ref p, rfl, .ref fe, rfl, 1, rfl, 10, 30, rfl, rfl, ⟨by decide, by decide, by decide⟩, 10, 30, rfl, rfl, ⟨by decide, by decide, by decide⟩, _, rfl, (by show 3 ≤ sizeLine; decide), fun lp nlp => ?_⟩
        have sp := same_new (o := .lst [.int (-1), .int ((10 : Int) ^ (30 : Int).toNat), .int (-(10 : Int) ^ (30 : Int).toNat)]) nlp
        have X5 := X4.same sp
        refine ⟨fe, cf, lp, _, rfl, upd_same, X4.F.ne nlp, (by show 1 ≤ 3; decide), (by show 3 ≤ 1000; decide), X5.F, fun v H6 hv k6 F6 => ?_⟩
        have X6 := X5.kp k6 F6
        obtain ⟨z, rfl, hz⟩ : ∃ z : Int, v = .int z ∧ wrong ((1 : Nat) : Int) [z] ≠ none := by
          have hv' : v = .int (-1) ∨ v = .int ((10 : Int) ^ (30 : Int).toNat) ∨ v = .int (-(10 : Int) ^ (30 : Int).toNat) := by simpa using hv
          rcases hv' with h | h | h
          · exact ⟨_, h, by decide +kernel⟩
          · exact ⟨_, h, by decide +kernel⟩
          · exact ⟨_, h, by decide +kernel⟩
        have cB := caught (K := K) (wd := "bad bill") (H := H6) T.fB (Q := fun v H' => v = v ∧ True) fun _ _ _ _ => ⟨rfl, True.intro⟩
        refine ⟨p, as, ones hs, z, rfl, X6.R, fun k hq => (by rw [fl1] at hq; cases hq), fun _ y => absurd fl2 y, fun _ _ k hk => (caught T.fB fun H7 u1 s7 hu1 => ?_).refd (by decide), fun _ _ ew => (by rw [fl2] at ew; exact absurd ew hz)⟩
        refine ⟨sz_1 _, fun wl nwl => ?_⟩
        have X7 := X6.same s7
        exact ⟨wl, u1, ⟨_, _, _, _, _, _, _, rfl⟩, X7.same (same_new nwl), upd_same, (same_new nwl) _ _ hu1, X7.F.ne nwl, X7.F.neC nwl, fun e => by rw [e, X7.D] at nwl; cases nwl⟩
      clear X3
      rintro σ' H3 ⟨wl, u1, ⟨y3, y4, y5, y6, y7, y8, y9, rfl⟩, X3, W3, hu1, n1, n2, n3⟩
      refine ⟨fun σ' H' => ∃ (u2 : Addr), (∃ y3 y4 y5 y6 y7 y8 y9, σ' = [some (.ref a), some (.ref fe), some (.ref p), y3, y4, y5, y6, y7, y8, y9, some (.ref wl), none]) ∧ SK cf fe Pt p ta as hs fs H' ∧ H' wl = some (.lst [.ref u1, .ref u2]) ∧ H' u1 = some (.tup [.non, .str "bad bill"]) ∧ H' u2 = some (.tup [.non, .str "other goods"]), ?_, ?_⟩
      · refine ⟨.ref wl, rfl, .inl ⟨rfl, _, SqL.of W3⟩, X3.T, fun H4 e4 T4 => ?_⟩
        have X4 := X3.ext e4 T4
        have W4 := e4 _ _ W3 (fun ps z => by cases z)
        have hu4 := e4 _ _ hu1 (fun ps z => by cases z)
        refine ⟨sz_2 _ _, fun t1 nt1 => ⟨sz_1 _, fun t2 nt2 => ⟨1, rfl, ?_⟩⟩⟩
        have st1 := same_new (o := .tup [.int 1, .int 0]) nt1
        have st2 := same_new (o := .tup [.ref t1]) nt2
        have fl3 : flaw [[1, 0]] = none := by decide +kernel
        have s12 := st1.trans st2
        refine ⟨t2, [t1], [[1, 0]], -1, rfl, ⟨⟨upd_same, st2 _ _ upd_same, True.intro⟩, (by show 1 ≤ 100; decide), fun r hr => by rw [List.mem_singleton.mp hr]; show 2 ≤ 100; decide⟩, fun k hq => (by rw [fl3] at hq; cases hq), fun _ _ => (caught T.fO fun H7 u2 s7 hu2 => ?_), fun _ y => absurd y (by decide), fun _ y => absurd y (by decide)⟩
        have s47 := s12.trans s7
        have W7 := s47 _ _ W4
        refine ⟨wl, _, _, rfl, rfl, W7, (by show 1 < sizeLine; decide), u2, ⟨_, _, _, _, _, _, _, rfl⟩, (X4.same s47).put W7 n1 n2 n3, upd_same, ?_, ?_⟩
        · rw [upd_ne (ne_of (s47 _ _ hu4) W7 (fun z => by cases z))]
          exact s47 _ _ hu4
        · rw [upd_ne (ne_of hu2 W7 (fun z => by cases z))]
          exact hu2
      clear X3 W3 hu1
      rintro σ' H3 ⟨u2, ⟨y3, y4, y5, y6, y7, y8, y9, rfl⟩, X3, W3, hu1, hu2⟩
      refine ⟨fun σ' H' => ∃ (u3 : Addr), (∃ y3 y4 y5 y6 y7 y8 y9, σ' = [some (.ref a), some (.ref fe), some (.ref p), y3, y4, y5, y6, y7, y8, y9, some (.ref wl), none]) ∧ SK cf fe Pt p ta as hs fs H' ∧ H' wl = some (.lst [.ref u1, .ref u2, .ref u3]) ∧ H' u1 = some (.tup [.non, .str "bad bill"]) ∧ H' u2 = some (.tup [.non, .str "other goods"]) ∧ H' u3 = some (.tup [.non, .str "bad lot"]), ?_, ?_⟩
      · refine ⟨.ref wl, rfl, .inl ⟨rfl, _, SqL.of W3⟩, X3.T, fun H4 e4 T4 => ?_⟩
        have X4 := X3.ext e4 T4
        have W4 := e4 _ _ W3 (fun ps z => by cases z)
        have hu4 := e4 _ _ hu1 (fun ps z => by cases z)
        have hu5 := e4 _ _ hu2 (fun ps z => by cases z)
        refine ⟨Nat.zero_le _, fun t1 nt1 => ⟨1, rfl, ?_⟩⟩
        have st1 := same_new (o := .tup []) nt1
        have fl4 : flaw [] ≠ none := by decide +kernel
        refine ⟨t1, [], [], -1, rfl, ⟨⟨upd_same, True.intro⟩, Nat.zero_le _, fun r hr => by cases hr⟩, fun k hk => (caught T.fC fun H7 u3 s7 hu3 => ?_).refd (by decide), fun y => absurd y fl4, fun y => absurd y fl4, fun y => absurd y fl4⟩
        have s47 := st1.trans s7
        have W7 := s47 _ _ W4
        refine ⟨wl, _, _, rfl, rfl, W7, (by show 2 < sizeLine; decide), u3, ⟨_, _, _, _, _, _, _, rfl⟩, (X4.same s47).put W7 n1 n2 n3, upd_same, ?_, ?_, ?_⟩
        · rw [upd_ne (ne_of (s47 _ _ hu4) W7 (fun z => by cases z))]
          exact s47 _ _ hu4
        · rw [upd_ne (ne_of (s47 _ _ hu5) W7 (fun z => by cases z))]
          exact s47 _ _ hu5
        · rw [upd_ne (ne_of hu3 W7 (fun z => by cases z))]
          exact hu3
      clear X3 W3 hu1 hu2
      rintro σ' H3 ⟨u3, ⟨y3, y4, y5, y6, y7, y8, y9, rfl⟩, X3, W3, hu1, hu2, hu3⟩
      refine ⟨.ref wl, rfl, sz_2 _ _, fun v1 nv1 => ⟨sz_2 _ _, fun v2 nv2 => ⟨sz_2 _ _, fun v3 nv3 => ⟨(by show 3 ≤ sizeLine; decide), fun v4 nv4 => ?_⟩⟩⟩⟩
      have m1 := same_new (o := .tup [.non, .str "bad bill"]) nv1
      have m2 := same_new (o := .tup [.non, .str "other goods"]) nv2
      have m3 := same_new (o := .tup [.non, .str "bad lot"]) nv3
      have m4 := same_new (o := .lst [.ref v1, .ref v2, .ref v3]) nv4
      have mm := m1.trans (m2.trans (m3.trans m4))
      have dp : ∀ {H : Hp} {u : Addr} {x : Str}, H u = some (.tup [.non, .str x]) → Dp K H (.ref u) (.tuple [.none, .str x]) := fun h => .tup (SqT.of h) (.cons .non (.cons (.str _) .nil))
      refine ⟨.list [.tuple [.none, .str "bad bill"], .tuple [.none, .str "other goods"], .tuple [.none, .str "bad lot"]], .list [.tuple [.none, .str "bad bill"], .tuple [.none, .str "other goods"], .tuple [.none, .str "bad lot"]],
        .lst (SqL.of (mm _ _ W3)) (.cons (dp (mm _ _ hu1)) (.cons (dp (mm _ _ hu2)) (.cons (dp (mm _ _ hu3)) .nil))), .lst (SqL.of upd_same) (.cons (dp (m4 _ _ (m3 _ _ (m2 _ _ upd_same)))) (.cons (dp (m4 _ _ (m3 _ _ upd_same))) (.cons (dp (m4 _ _ upd_same)) .nil))), by decide +kernel, by decide +kernel, ?_⟩
      have ee : PyData.eqv (.list [.tuple [.none, .str "bad bill"], .tuple [.none, .str "other goods"], .tuple [.none, .str "bad lot"]]) (.list [.tuple [.none, .str "bad bill"], .tuple [.none, .str "other goods"], .tuple [.none, .str "bad lot"]]) = true := by simp [PyData.eqv, PyData.eqvAll]
      rw [ee]
      refine ⟨true, rfl, iteT ?_⟩
      refine ⟨.ref p, rfl, p, as, ones hs, rfl, (X3.same mm).R, fl1, fl2, fun H5 => ⟨rfl, ?_⟩⟩
      rw [decide_eq_true rfl]
      exact q H5

    obtain ⟨t, h1, h2⟩ := build
    exact ⟨t, h1.nox, h2⟩
end
end HL

namespace HL
open PySem PySem.Spec PyProof.Rows L2
open LamX (Tabs TabS TabB LawAtS)
/-- whether an error of the class T is what an except clause of S takes -/
theorem exm_by {K : PySem.W.Frag} {S T : Addr} {b : Bool} (h1 : PySem.W.subIn K (.ref S) (.type "BaseException") = some true) (h2 : PySem.W.isClsIn K S = true) (h3 : PySem.W.typeIn K (.ref S) = some (.type "type"))
    (h4 : PySem.W.subIn K (.ref T) (.ref S) = some b) : PySem.W.exmOne K (.ref T) (.ref S) = some b := by
  have e1 : (PySem.W.subIn K (.ref S) (.type "BaseException") == some true) = true := by rw [h1] <;> rfl
  have e2 : ((PySem.W.clsIn K S).isSome && PySem.W.typeIn K (.ref S) == some (.type "type")) = true := by
    have h2' : (PySem.W.clsIn K S).isSome = true := h2
    rw [h2', h3] <;> rfl
  show (if (PySem.W.subIn K (.ref S) (.type "BaseException") == some true) = true then (if ((PySem.W.clsIn K S).isSome && PySem.W.typeIn K (.ref S) == some (.type "type")) = true then PySem.W.subIn K (.ref T) (.ref S) else none) else none) = some b
  rw [if_pos e1, if_pos e2]
  exact h4
theorem rev_vals {zs : List V} {ws : List Value} (r : Vals zs ws) : Vals zs.reverse ws.reverse := by
  induction r with
  | nil => exact .nil
  | cons r t ih =>
    rw [List.reverse_cons, List.reverse_cons]
    exact ih.append (.cons r .nil)
theorem all_mk {l : PySem.W.OpenLaw} {w : World} {K : PySem.W.Frag} {h : Heap} {mg : Str → Option Value} {fa : Addr} (X : K.In h) (G : h.Ns mainGlobals mg) (hfa : mg "law" = some (.ref fa))
    {f0 : Addr} {oc0 kV0 dc0 pm0 cd0 ct0 : Value} {od0 an0 : Option Addr} {sl0 : Array (Option Value)}
    {f1 : Addr} {oc1 kV1 dc1 pm1 cd1 ct1 : Value} {od1 an1 : Option Addr} {sl1 : Array (Option Value)}
    {f2 : Addr} {oc2 kV2 dc2 pm2 cd2 ct2 : Value} {od2 an2 : Option Addr} {sl2 : Array (Option Value)}
    {f3 : Addr} {oc3 kV3 dc3 pm3 cd3 ct3 : Value} {od3 an3 : Option Addr} {sl3 : Array (Option Value)}
    {f4 : Addr} {oc4 kV4 dc4 pm4 cd4 ct4 : Value} {od4 an4 : Option Addr} {sl4 : Array (Option Value)}
    {f5 : Addr} {oc5 kV5 dc5 pm5 cd5 ct5 : Value} {od5 an5 : Option Addr} {sl5 : Array (Option Value)}
    {f6 : Addr} {oc6 kV6 dc6 pm6 cd6 ct6 : Value} {od6 an6 : Option Addr} {sl6 : Array (Option Value)}
    {f7 : Addr} {oc7 kV7 dc7 pm7 cd7 ct7 : Value} {od7 an7 : Option Addr} {sl7 : Array (Option Value)}
    {f8 : Addr} {oc8 kV8 dc8 pm8 cd8 ct8 : Value} {od8 an8 : Option Addr} {sl8 : Array (Option Value)}
    {f9 : Addr} {oc9 kV9 dc9 pm9 cd9 ct9 : Value} {od9 an9 : Option Addr} {sl9 : Array (Option Value)}
    {f10 : Addr} {oc10 kV10 dc10 pm10 cd10 ct10 : Value} {od10 an10 : Option Addr} {sl10 : Array (Option Value)}
    {f11 : Addr} {oc11 kV11 dc11 pm11 cd11 ct11 : Value} {od11 an11 : Option Addr} {sl11 : Array (Option Value)}
    {f12 : Addr} {oc12 kV12 dc12 pm12 cd12 ct12 : Value} {od12 an12 : Option Addr} {sl12 : Array (Option Value)}
    {f13 : Addr} {oc13 kV13 dc13 pm13 cd13 ct13 : Value} {od13 an13 : Option Addr} {sl13 : Array (Option Value)}
    {f14 : Addr} {oc14 kV14 dc14 pm14 cd14 ct14 : Value} {od14 an14 : Option Addr} {sl14 : Array (Option Value)}
    {f15 : Addr} {oc15 kV15 dc15 pm15 cd15 ct15 : Value} {od15 an15 : Option Addr} {sl15 : Array (Option Value)}
    {f16 : Addr} {oc16 kV16 dc16 pm16 cd16 ct16 : Value} {od16 an16 : Option Addr} {sl16 : Array (Option Value)}
    {f17 : Addr} {oc17 kV17 dc17 pm17 cd17 ct17 : Value} {od17 an17 : Option Addr} {sl17 : Array (Option Value)}
    {f18 : Addr} {oc18 kV18 dc18 pm18 cd18 ct18 : Value} {od18 an18 : Option Addr} {sl18 : Array (Option Value)}
    {fL cL Pt : Addr} {ocL kVL dcL pmL ctL : Value} {odL anL : Option Addr} {slL : Array (Option Value)}
    {C1 CE1 fI1 N1 : Addr} {nm1 q1 : Str} {bs1 : List Value} {sn1 : List Str} {sub1 : List Value} {ab1 : Bool} {col1 : Option Bool} {dd1 : Option Addr} {m01 m11 m21 m31 m51 : Option Value} {ocI1 kVI1 dcI1 pmI1 cdI1 ctI1 : Value} {odI1 anI1 : Option Addr} {slI1 : Array (Option Value)}
    {C2 CE2 fI2 N2 : Addr} {nm2 q2 : Str} {bs2 : List Value} {sn2 : List Str} {sub2 : List Value} {ab2 : Bool} {col2 : Option Bool} {dd2 : Option Addr} {m02 m12 m22 m32 m52 : Option Value} {ocI2 kVI2 dcI2 pmI2 cdI2 ctI2 : Value} {odI2 anI2 : Option Addr} {slI2 : Array (Option Value)}
    {C3 CE3 fI3 N3 : Addr} {nm3 q3 : Str} {bs3 : List Value} {sn3 : List Str} {sub3 : List Value} {ab3 : Bool} {col3 : Option Bool} {dd3 : Option Addr} {m03 m13 m23 m33 m53 : Option Value} {ocI3 kVI3 dcI3 pmI3 cdI3 ctI3 : Value} {odI3 anI3 : Option Addr} {slI3 : Array (Option Value)}
    {E1 E2 E3 : Addr}
    {t6 : Tok}
    {t5 : Tok}
    {t3 : Tok}
    {t30 : Tok}
    {t60 : Tok}
    (hTab : h.get? Pt = some (PySem.W.tabObj #[]))
    (a0 : PySem.W.nsIn K mainGlobals "is_hold" = some (some (.ref f0)))
    (l0 : K.lookup f0 = some ⟨oc0, od0, .func (PySem.W.fnOf "is_hold" "is_hold" (defArgs sIsHold) (defBody sIsHold) (defScope sIsHold) .none kV0 dc0 pm0 an0 cd0 ct0), sl0⟩)
    (c0 : PySem.W.codeIn K cd0 "is_hold" = true)
    (k0 : PySem.W.keepIn K (.ref f0) = true)
    (a1 : PySem.W.nsIn K mainGlobals "look_lot" = some (some (.ref f1)))
    (l1 : K.lookup f1 = some ⟨oc1, od1, .func (PySem.W.fnOf "look_lot" "look_lot" (defArgs sLook) (defBody sLook) (defScope sLook) .none kV1 dc1 pm1 an1 cd1 ct1), sl1⟩)
    (c1 : PySem.W.codeIn K cd1 "look_lot" = true)
    (k1 : PySem.W.keepIn K (.ref f1) = true)
    (a2 : PySem.W.nsIn K mainGlobals "goods_of" = some (some (.ref f2)))
    (l2 : K.lookup f2 = some ⟨oc2, od2, .func (PySem.W.fnOf "goods_of" "goods_of" (defArgs sGoods) (defBody sGoods) (defScope sGoods) .none kV2 dc2 pm2 an2 cd2 ct2), sl2⟩)
    (c2 : PySem.W.codeIn K cd2 "goods_of" = true)
    (k2 : PySem.W.keepIn K (.ref f2) = true)
    (a3 : PySem.W.nsIn K mainGlobals "first_wrong" = some (some (.ref f3)))
    (l3 : K.lookup f3 = some ⟨oc3, od3, .func (PySem.W.fnOf "first_wrong" "first_wrong" (defArgs sFirst) (defBody sFirst) (defScope sFirst) .none kV3 dc3 pm3 an3 cd3 ct3), sl3⟩)
    (c3 : PySem.W.codeIn K cd3 "first_wrong" = true)
    (k3 : PySem.W.keepIn K (.ref f3) = true)
    (a4 : PySem.W.nsIn K mainGlobals "look_bill" = some (some (.ref f4)))
    (l4 : K.lookup f4 = some ⟨oc4, od4, .func (PySem.W.fnOf "look_bill" "look_bill" (defArgs sLookBill) (defBody sLookBill) (defScope sLookBill) .none kV4 dc4 pm4 an4 cd4 ct4), sl4⟩)
    (c4 : PySem.W.codeIn K cd4 "look_bill" = true)
    (k4 : PySem.W.keepIn K (.ref f4) = true)
    (a5 : PySem.W.nsIn K mainGlobals "spread" = some (some (.ref f5)))
    (l5 : K.lookup f5 = some ⟨oc5, od5, .func (PySem.W.fnOf "spread" "spread" (defArgs sSpread) (defBody sSpread) (defScope sSpread) .none kV5 dc5 pm5 an5 cd5 ct5), sl5⟩)
    (c5 : PySem.W.codeIn K cd5 "spread" = true)
    (k5 : PySem.W.keepIn K (.ref f5) = true)
    (a6 : PySem.W.nsIn K mainGlobals "choices" = some (some (.ref f6)))
    (l6 : K.lookup f6 = some ⟨oc6, od6, .func (PySem.W.fnOf "choices" "choices" (defArgs sChoices) (defBody sChoices) (defScope sChoices) .none kV6 dc6 pm6 an6 cd6 ct6), sl6⟩)
    (c6 : PySem.W.codeIn K cd6 "choices" = true)
    (k6 : PySem.W.keepIn K (.ref f6) = true)
    (a7 : PySem.W.nsIn K mainGlobals "how_many_of_one" = some (some (.ref f7)))
    (l7 : K.lookup f7 = some ⟨oc7, od7, .func (PySem.W.fnOf "how_many_of_one" "how_many_of_one" (defArgs sHM1) (defBody sHM1) (defScope sHM1) .none kV7 dc7 pm7 an7 cd7 ct7), sl7⟩)
    (c7 : PySem.W.codeIn K cd7 "how_many_of_one" = true)
    (k7 : PySem.W.keepIn K (.ref f7) = true)
    (a8 : PySem.W.nsIn K mainGlobals "_law_feed" = some (some (.ref f8)))
    (l8 : K.lookup f8 = some ⟨oc8, od8, .func (PySem.W.fnOf "_law_feed" "_law_feed" (defArgs sFeed) (defBody sFeed) (defScope sFeed) .none kV8 dc8 pm8 an8 cd8 ct8), sl8⟩)
    (c8 : PySem.W.codeIn K cd8 "_law_feed" = true)
    (k8 : PySem.W.keepIn K (.ref f8) = true)
    (a9 : PySem.W.nsIn K mainGlobals "_law_draw" = some (some (.ref f9)))
    (l9 : K.lookup f9 = some ⟨oc9, od9, .func (PySem.W.fnOf "_law_draw" "_law_draw" (defArgs sDraw) (defBody sDraw) (defScope sDraw) .none kV9 dc9 pm9 an9 cd9 ct9), sl9⟩)
    (c9 : PySem.W.codeIn K cd9 "_law_draw" = true)
    (k9 : PySem.W.keepIn K (.ref f9) = true)
    (a10 : PySem.W.nsIn K mainGlobals "_law_pick" = some (some (.ref f10)))
    (l10 : K.lookup f10 = some ⟨oc10, od10, .func (PySem.W.fnOf "_law_pick" "_law_pick" (defArgs sPick) (defBody sPick) (defScope sPick) .none kV10 dc10 pm10 an10 cd10 ct10), sl10⟩)
    (c10 : PySem.W.codeIn K cd10 "_law_pick" = true)
    (k10 : PySem.W.keepIn K (.ref f10) = true)
    (a11 : PySem.W.nsIn K mainGlobals "_law_same" = some (some (.ref f11)))
    (l11 : K.lookup f11 = some ⟨oc11, od11, .func (PySem.W.fnOf "_law_same" "_law_same" (defArgs sSame) (defBody sSame) (defScope sSame) .none kV11 dc11 pm11 an11 cd11 ct11), sl11⟩)
    (c11 : PySem.W.codeIn K cd11 "_law_same" = true)
    (k11 : PySem.W.keepIn K (.ref f11) = true)
    (a12 : PySem.W.nsIn K mainGlobals "_law_word" = some (some (.ref f12)))
    (l12 : K.lookup f12 = some ⟨oc12, od12, .func (PySem.W.fnOf "_law_word" "_law_word" (defArgs sWord) (defBody sWord) (defScope sWord) .none kV12 dc12 pm12 an12 cd12 ct12), sl12⟩)
    (c12 : PySem.W.codeIn K cd12 "_law_word" = true)
    (k12 : PySem.W.keepIn K (.ref f12) = true)
    (a13 : PySem.W.nsIn K mainGlobals "_law_great" = some (some (.ref f13)))
    (l13 : K.lookup f13 = some ⟨oc13, od13, .func (PySem.W.fnOf "_law_great" "_law_great" (defArgs sGreat) (defBody sGreat) (defScope sGreat) .none kV13 dc13 pm13 an13 cd13 ct13), sl13⟩)
    (c13 : PySem.W.codeIn K cd13 "_law_great" = true)
    (k13 : PySem.W.keepIn K (.ref f13) = true)
    (a14 : PySem.W.nsIn K mainGlobals "_law_hold" = some (some (.ref f14)))
    (l14 : K.lookup f14 = some ⟨oc14, od14, .func (PySem.W.fnOf "_law_hold" "_law_hold" (defArgs sHold) (defBody sHold) (defScope sHold) .none kV14 dc14 pm14 an14 cd14 ct14), sl14⟩)
    (c14 : PySem.W.codeIn K cd14 "_law_hold" = true)
    (k14 : PySem.W.keepIn K (.ref f14) = true)
    (a15 : PySem.W.nsIn K mainGlobals "_law_lot" = some (some (.ref f15)))
    (l15 : K.lookup f15 = some ⟨oc15, od15, .func (PySem.W.fnOf "_law_lot" "_law_lot" (defArgs sLot) (defBody sLot) (defScope sLot) .none kV15 dc15 pm15 an15 cd15 ct15), sl15⟩)
    (c15 : PySem.W.codeIn K cd15 "_law_lot" = true)
    (k15 : PySem.W.keepIn K (.ref f15) = true)
    (a16 : PySem.W.nsIn K mainGlobals "_law_table" = some (some (.ref f16)))
    (l16 : K.lookup f16 = some ⟨oc16, od16, .func (PySem.W.fnOf "_law_table" "_law_table" (defArgs sTable) (defBody sTable) (defScope sTable) .none kV16 dc16 pm16 an16 cd16 ct16), sl16⟩)
    (c16 : PySem.W.codeIn K cd16 "_law_table" = true)
    (k16 : PySem.W.keepIn K (.ref f16) = true)
    (a17 : PySem.W.nsIn K mainGlobals "_law_five_right" = some (some (.ref f17)))
    (l17 : K.lookup f17 = some ⟨oc17, od17, .func (PySem.W.fnOf "_law_five_right" "_law_five_right" (defArgs sFive) (defBody sFive) (defScope sFive) .none kV17 dc17 pm17 an17 cd17 ct17), sl17⟩)
    (c17 : PySem.W.codeIn K cd17 "_law_five_right" = true)
    (k17 : PySem.W.keepIn K (.ref f17) = true)
    (a18 : PySem.W.nsIn K mainGlobals "_law_place" = some (some (.ref f18)))
    (l18 : K.lookup f18 = some ⟨oc18, od18, .func (PySem.W.fnOf "_law_place" "_law_place" (defArgs sPlaceL) (defBody sPlaceL) (defScope sPlaceL) .none kV18 dc18 pm18 an18 cd18 ct18), sl18⟩)
    (c18 : PySem.W.codeIn K cd18 "_law_place" = true)
    (k18 : PySem.W.keepIn K (.ref f18) = true)
    (aL : PySem.W.nsIn K mainGlobals "law" = some (some (.ref fL)))
    (lL : K.lookup fL = some ⟨ocL, odL, .func (PySem.W.fnOf "law" "law" (defArgs sLaw) (defBody sLaw) (defScope sLaw) .none kVL dcL pmL anL (.ref cL) ctL), slL⟩)
    (cdL : PySem.W.codeIn K (.ref cL) "law" = true)
    (nP : K.lookup Pt = none)
    (hd : PySem.W.codeHdIn K cL Pt = true)
    (aC1 : PySem.W.nsIn K mainGlobals "BadLot" = some (some (.ref C1)))
    (xL1 : K.lookup C1 = some (excClassObj nm1 q1 C1 N1 bs1 [.ref CE1, .type "ValueError", .type "Exception", .type "BaseException", .type "object"] true sn1 sub1 ab1 col1 dd1 m01 m11 m21 m31 m51 "ValueError.__new__"))
    (sa1 : PySem.W.findIn K (.ref C1) "__setattr__" = some (some (.builtin "object.__setattr__")))
    (ga1 : PySem.W.findIn K (.ref C1) "__getattribute__" = some (some (.builtin "BaseException.__getattribute__")))
    (gg1 : PySem.W.findIn K (.ref C1) "__getattr__" = some none)
    (nW1 : PySem.W.findIn K (.ref C1) "word" = some none)
    (nF1 : PySem.W.findIn K (.ref C1) "kind" = some none)
    (aI1 : PySem.W.findIn K (.ref C1) "__init__" = some (some (.ref fI1)))
    (tI1 : PySem.W.typeIn K (.ref fI1) = some (.type "function"))
    (lI1 : K.lookup fI1 = some ⟨ocI1, odI1, .func (PySem.W.fnOf "__init__" "BadLot.__init__" (defArgs sBadInit) (defBody sBadInit) (defScope sBadInit) .none kVI1 dcI1 pmI1 anI1 cdI1 ctI1), slI1⟩)
    (cI1 : PySem.W.codeIn K cdI1 "BadLot.__init__" = true)
    (kI1 : PySem.W.keepIn K (.ref fI1) = true)
    (kC1 : PySem.W.keepIn K (.ref C1) = true)
    (eC1 : PySem.W.subIn K (.ref C1) (.type "BaseException") = some true)
    (tC1 : PySem.W.typeIn K (.ref C1) = some (.type "type"))
    (hC1 : PySem.W.hasDictIn K C1 = true)
    (iC1 : PySem.W.isClsIn K C1 = true)
    (aC2 : PySem.W.nsIn K mainGlobals "BadBill" = some (some (.ref C2)))
    (xL2 : K.lookup C2 = some (excClassObj nm2 q2 C2 N2 bs2 [.ref CE2, .type "ValueError", .type "Exception", .type "BaseException", .type "object"] true sn2 sub2 ab2 col2 dd2 m02 m12 m22 m32 m52 "ValueError.__new__"))
    (sa2 : PySem.W.findIn K (.ref C2) "__setattr__" = some (some (.builtin "object.__setattr__")))
    (ga2 : PySem.W.findIn K (.ref C2) "__getattribute__" = some (some (.builtin "BaseException.__getattribute__")))
    (gg2 : PySem.W.findIn K (.ref C2) "__getattr__" = some none)
    (nW2 : PySem.W.findIn K (.ref C2) "word" = some none)
    (nF2 : PySem.W.findIn K (.ref C2) "good" = some none)
    (aI2 : PySem.W.findIn K (.ref C2) "__init__" = some (some (.ref fI2)))
    (tI2 : PySem.W.typeIn K (.ref fI2) = some (.type "function"))
    (lI2 : K.lookup fI2 = some ⟨ocI2, odI2, .func (PySem.W.fnOf "__init__" "BadBill.__init__" (defArgs sBillInit) (defBody sBillInit) (defScope sBillInit) .none kVI2 dcI2 pmI2 anI2 cdI2 ctI2), slI2⟩)
    (cI2 : PySem.W.codeIn K cdI2 "BadBill.__init__" = true)
    (kI2 : PySem.W.keepIn K (.ref fI2) = true)
    (kC2 : PySem.W.keepIn K (.ref C2) = true)
    (eC2 : PySem.W.subIn K (.ref C2) (.type "BaseException") = some true)
    (tC2 : PySem.W.typeIn K (.ref C2) = some (.type "type"))
    (hC2 : PySem.W.hasDictIn K C2 = true)
    (iC2 : PySem.W.isClsIn K C2 = true)
    (aC3 : PySem.W.nsIn K mainGlobals "OtherGoods" = some (some (.ref C3)))
    (xL3 : K.lookup C3 = some (excClassObj nm3 q3 C3 N3 bs3 [.ref CE3, .type "ValueError", .type "Exception", .type "BaseException", .type "object"] true sn3 sub3 ab3 col3 dd3 m03 m13 m23 m33 m53 "ValueError.__new__"))
    (sa3 : PySem.W.findIn K (.ref C3) "__setattr__" = some (some (.builtin "object.__setattr__")))
    (ga3 : PySem.W.findIn K (.ref C3) "__getattribute__" = some (some (.builtin "BaseException.__getattribute__")))
    (gg3 : PySem.W.findIn K (.ref C3) "__getattr__" = some none)
    (nW3 : PySem.W.findIn K (.ref C3) "word" = some none)
    (aI3 : PySem.W.findIn K (.ref C3) "__init__" = some (some (.ref fI3)))
    (tI3 : PySem.W.typeIn K (.ref fI3) = some (.type "function"))
    (lI3 : K.lookup fI3 = some ⟨ocI3, odI3, .func (PySem.W.fnOf "__init__" "OtherGoods.__init__" (defArgs sOtherInit) (defBody sOtherInit) (defScope sOtherInit) .none kVI3 dcI3 pmI3 anI3 cdI3 ctI3), slI3⟩)
    (cI3 : PySem.W.codeIn K cdI3 "OtherGoods.__init__" = true)
    (kI3 : PySem.W.keepIn K (.ref fI3) = true)
    (kC3 : PySem.W.keepIn K (.ref C3) = true)
    (eC3 : PySem.W.subIn K (.ref C3) (.type "BaseException") = some true)
    (tC3 : PySem.W.typeIn K (.ref C3) = some (.type "type"))
    (hC3 : PySem.W.hasDictIn K C3 = true)
    (iC3 : PySem.W.isClsIn K C3 = true)
    (aE1 : PySem.W.nsIn K mainGlobals "LotError" = some (some (.ref E1)))
    (aE2 : PySem.W.nsIn K mainGlobals "Missing" = some (some (.ref E2)))
    (aE3 : PySem.W.nsIn K mainGlobals "NothingLeft" = some (some (.ref E3)))
    (eE1 : PySem.W.subIn K (.ref E1) (.type "BaseException") = some true)
    (iE1 : PySem.W.isClsIn K E1 = true)
    (tE1 : PySem.W.typeIn K (.ref E1) = some (.type "type"))
    (eE2 : PySem.W.subIn K (.ref E2) (.type "BaseException") = some true)
    (iE2 : PySem.W.isClsIn K E2 = true)
    (tE2 : PySem.W.typeIn K (.ref E2) = some (.type "type"))
    (s1E : PySem.W.subIn K (.ref C1) (.ref E1) = some true)
    (s2E : PySem.W.subIn K (.ref C2) (.ref E1) = some true)
    (s3E : PySem.W.subIn K (.ref C3) (.ref E1) = some true)
    (s22 : PySem.W.subIn K (.ref C2) (.ref C2) = some true)
    (v6 : PySem.W.nsIn K mainGlobals "MOST_HOLD" = some (some (.int 6 t6)))
    (v5 : PySem.W.nsIn K mainGlobals "MOST_KINDS" = some (some (.int 5 t5)))
    (v3 : PySem.W.nsIn K mainGlobals "MOST_GOODS" = some (some (.int 3 t3)))
    (v30 : PySem.W.nsIn K mainGlobals "GREAT" = some (some (.int G30 t30)))
    (v60 : PySem.W.nsIn K mainGlobals "ROUND" = some (some (.int 60 t60)))
    (z_len : PySem.W.nsIn K mainGlobals "len" = some none)
    (z_list : PySem.W.nsIn K mainGlobals "list" = some none)
    (z_tuple : PySem.W.nsIn K mainGlobals "tuple" = some none)
    (z_dict : PySem.W.nsIn K mainGlobals "dict" = some none)
    (z_str : PySem.W.nsIn K mainGlobals "str" = some none)
    (z_int : PySem.W.nsIn K mainGlobals "int" = some none)
    (z_bool : PySem.W.nsIn K mainGlobals "bool" = some none)
    (z_isinstance : PySem.W.nsIn K mainGlobals "isinstance" = some none)
    (z_all : PySem.W.nsIn K mainGlobals "all" = some none)
    (z_range : PySem.W.nsIn K mainGlobals "range" = some none)
    (z_sum : PySem.W.nsIn K mainGlobals "sum" = some none)
    (z_min : PySem.W.nsIn K mainGlobals "min" = some none)
    (z_max : PySem.W.nsIn K mainGlobals "max" = some none)
    (z_enumerate : PySem.W.nsIn K mainGlobals "enumerate" = some none)
    : LawAtS l w K CX0 9 63 "_law_script" mg fa h := by
  have e := hfa.symm.trans (PySem.W.mg_of X G aL)
  cases e
  have F0 := fun_mk (st := sIsHold) l0 c0 k0
  have b0 := F0.binds (ps := ["hold", "goods"]) fun _ _ _ _ _ _ us hl => match us, hl with | [_, _], _ => rfl
  have g0 := PySem.W.mg_of X G a0
  have F1 := fun_mk (st := sLook) l1 c1 k1
  have b1 := F1.binds (ps := ["lot"]) fun _ _ _ _ _ _ us hl => match us, hl with | [_], _ => rfl
  have g1 := PySem.W.mg_of X G a1
  have F2 := fun_mk (st := sGoods) l2 c2 k2
  have b2 := F2.binds (ps := ["lot"]) fun _ _ _ _ _ _ us hl => match us, hl with | [_], _ => rfl
  have g2 := PySem.W.mg_of X G a2
  have F3 := fun_mk (st := sFirst) l3 c3 k3
  have b3 := F3.binds (ps := ["row", "many"]) fun _ _ _ _ _ _ us hl => match us, hl with | [_, _], _ => rfl
  have g3 := PySem.W.mg_of X G a3
  have F4 := fun_mk (st := sLookBill) l4 c4 k4
  have b4 := F4.binds (ps := ["lot", "bill"]) fun _ _ _ _ _ _ us hl => match us, hl with | [_, _], _ => rfl
  have g4 := PySem.W.mg_of X G a4
  have F5 := fun_mk (st := sSpread) l5 c5 k5
  have b5 := F5.binds (ps := ["shares", "hold"]) fun _ _ _ _ _ _ us hl => match us, hl with | [_, _], _ => rfl
  have g5 := PySem.W.mg_of X G a5
  have F6 := fun_mk (st := sChoices) l6 c6 k6
  have b6 := F6.binds (ps := ["many", "few"]) fun _ _ _ _ _ _ us hl => match us, hl with | [_, _], _ => rfl
  have g6 := PySem.W.mg_of X G a6
  have F7 := fun_mk (st := sHM1) l7 c7 k7
  have b7 := F7.binds (ps := ["lot", "amount"]) fun _ _ _ _ _ _ us hl => match us, hl with | [_, _], _ => rfl
  have g7 := PySem.W.mg_of X G a7
  have F8 := fun_mk (st := sFeed) l8 c8 k8
  have b8 := F8.binds (ps := ["_law_script"]) fun _ _ _ _ _ _ us hl => match us, hl with | [_], _ => rfl
  have g8 := PySem.W.mg_of X G a8
  have F9 := fun_mk (st := sDraw) l9 c9 k9
  have b9 := F9.binds (ps := ["_law_feed_here", "_law_many"]) fun _ _ _ _ _ _ us hl => match us, hl with | [_, _], _ => rfl
  have g9 := PySem.W.mg_of X G a9
  have F10 := fun_mk (st := sPick) l10 c10 k10
  have b10 := F10.binds (ps := ["_law_feed_here", "_law_row"]) fun _ _ _ _ _ _ us hl => match us, hl with | [_, _], _ => rfl
  have g10 := PySem.W.mg_of X G a10
  have F11 := fun_mk (st := sSame) l11 c11 k11
  have b11 := F11.binds (ps := ["_law_found", "_law_due"]) fun _ _ _ _ _ _ us hl => match us, hl with | [_, _], _ => rfl
  have g11 := PySem.W.mg_of X G a11
  have F12 := fun_mk (st := sWord) l12 c12 k12
  have b12 := F12.binds (ps := ["_law_ask"]) fun _ _ _ _ _ _ us hl => match us, hl with | [_], _ => rfl
  have g12 := PySem.W.mg_of X G a12
  have F13 := fun_mk (st := sGreat) l13 c13 k13
  have b13 := F13.binds (ps := ["_law_feed_here"]) fun _ _ _ _ _ _ us hl => match us, hl with | [_], _ => rfl
  have g13 := PySem.W.mg_of X G a13
  have F14 := fun_mk (st := sHold) l14 c14 k14
  have b14 := F14.binds (ps := ["_law_feed_here", "_law_goods", "_law_most"]) fun _ _ _ _ _ _ us hl => match us, hl with | [_, _, _], _ => rfl
  have g14 := PySem.W.mg_of X G a14
  have F15 := fun_mk (st := sLot) l15 c15 k15
  have b15 := F15.binds (ps := ["_law_feed_here", "_law_goods", "_law_kinds", "_law_most"]) fun _ _ _ _ _ _ us hl => match us, hl with | [_, _, _, _], _ => rfl
  have g15 := PySem.W.mg_of X G a15
  have F16 := fun_mk (st := sTable) l16 c16 k16
  have b16 := F16.binds (ps := ["_law_mlot", "_law_top"]) fun _ _ _ _ _ _ us hl => match us, hl with | [_, _], _ => rfl
  have g16 := PySem.W.mg_of X G a16
  have F17 := fun_mk (st := sFive) l17 c17 k17
  have b17 := F17.binds (ps := ["_law_size", "_law_mamount"]) fun _ _ _ _ _ _ us hl => match us, hl with | [_, _], _ => rfl
  have g17 := PySem.W.mg_of X G a17
  have F18 := fun_mk (st := sPlaceL) l18 c18 k18
  have b18 := F18.binds (ps := ["_law_mlot"]) fun _ _ _ _ _ _ us hl => match us, hl with | [_], _ => rfl
  have g18 := PySem.W.mg_of X G a18
  have FI1 := fun_mk (st := sBadInit) lI1 cI1 kI1
  have bI1 := FI1.binds (ps := ["self", "kind"]) fun _ _ _ _ _ _ us hl => match us, hl with | [_, _], _ => rfl
  have ox1 : OexC K C1 := ⟨⟨nm1, q1, N1, bs1, _, sn1, sub1, ab1, col1, dd1, m01, m11, m21, m31, m51, xL1, (show PySem.HandSPX.refsVE [.type "ValueError", .type "Exception", .type "BaseException", .type "object"] = true by decide +kernel)⟩, sa1, eC1, tC1, kC1⟩
  have kk1 : Cls2 K C1 "kind" := ⟨ox1, nW1, nF1⟩
  have FI2 := fun_mk (st := sBillInit) lI2 cI2 kI2
  have bI2 := FI2.binds (ps := ["self", "good"]) fun _ _ _ _ _ _ us hl => match us, hl with | [_, _], _ => rfl
  have ox2 : OexC K C2 := ⟨⟨nm2, q2, N2, bs2, _, sn2, sub2, ab2, col2, dd2, m02, m12, m22, m32, m52, xL2, (show PySem.HandSPX.refsVE [.type "ValueError", .type "Exception", .type "BaseException", .type "object"] = true by decide +kernel)⟩, sa2, eC2, tC2, kC2⟩
  have kk2 : Cls2 K C2 "good" := ⟨ox2, nW2, nF2⟩
  have FI3 := fun_mk (st := sOtherInit) lI3 cI3 kI3
  have bI3 := FI3.binds (ps := ["self"]) fun _ _ _ _ _ _ us hl => match us, hl with | [_], _ => rfl
  have ox3 : OexB K C3 "ValueError.__new__" [.type "ValueError", .type "Exception", .type "BaseException", .type "object"] := ⟨⟨nm3, q3, N3, bs3, _, sn3, sub3, ab3, col3, dd3, m03, m13, m23, m33, m53, xL3, fun _ => rfl, fun _ => rfl⟩, by decide +kernel, sa3, eC3, tC3, kC3⟩
  have kk3 : Cls1 K C3 := ⟨ox3, nW3⟩
  have B : Bl mg := ⟨PySem.W.mg_none_of X G z_len, PySem.W.mg_none_of X G z_list, PySem.W.mg_none_of X G z_tuple, PySem.W.mg_none_of X G z_dict, PySem.W.mg_none_of X G z_str, PySem.W.mg_none_of X G z_int, PySem.W.mg_none_of X G z_bool, PySem.W.mg_none_of X G z_isinstance, PySem.W.mg_none_of X G z_all, PySem.W.mg_none_of X G z_range, PySem.W.mg_none_of X G z_sum, PySem.W.mg_none_of X G z_min, PySem.W.mg_none_of X G z_max, PySem.W.mg_none_of X G z_enumerate⟩
  have M : Consts mg := ⟨⟨_, PySem.W.mg_of X G v6⟩, ⟨_, PySem.W.mg_of X G v5⟩, ⟨_, PySem.W.mg_of X G v3⟩⟩
  have kbHM : KBn K (PySem.W.fnOf "how_many_of_one" "how_many_of_one" (defArgs sHM1) (defBody sHM1) (defScope sHM1) .none kV7 dc7 pm7 an7 cd7 ct7) ["lot", "amount"] 0 ["lot", "amount"] (fun _ ws => ws) (fun _ zs => zs) := ⟨fun s us ws _ h1 h2 => by
    match us, ws, h1, h2 with
    | [], [w0, w1], _, _ => exact .of_eq rfl, fun _ r => r⟩
  refine ⟨PySem.W.fnOf "law" "law" (defArgs sLaw) (defBody sLaw) (defScope sLaw) .none kVL dcL pmL anL (.ref cL) ctL, [(cL, Pt)], spLaw K Pt, fun p hp => ?_, fun p hp => ?_, fun p hp => ?_, fun s u => .of_eq rfl, fun H a ns hl _ hH hS => ⟨a, ns, rfl, hS, hl, fun p hp => ?_, fun _ => rfl⟩, fun base KB GB TB => ?_⟩
  · rw [List.mem_singleton.mp hp]; exact hTab
  · rw [List.mem_singleton.mp hp]; exact nP
  · rw [List.mem_singleton.mp hp]; exact PySem.W.codeHd_of_K X hd
  · rw [List.mem_singleton.mp hp]; exact TabS.nil (hH (cL, Pt) List.mem_cons_self)
  · have Tb := TB (cL, Pt) List.mem_cons_self
    have bad1 : BadTxt l.prog w K mg base "BadLot" C1 "kind" "bad lot" := ⟨kk1, PySem.W.mg_of X G aC1, fI1, _, aI1, tI1, ok_badInit FI1 kk1, bI1⟩
    have bad2 : BadTxt l.prog w K mg base "BadBill" C2 "good" "bad bill" := ⟨kk2, PySem.W.mg_of X G aC2, fI2, _, aI2, tI2, ok_billInit FI2 kk2, bI2⟩
    have bad3 : BadTxt1 l.prog w K mg base "OtherGoods" C3 "other goods" := ⟨kk3, PySem.W.mg_of X G aC3, fI3, _, aI3, tI3, ok_otherInit FI3 kk3, bI3⟩
    have cDraw : Cal l.prog w K mg base CX0 1 "_law_draw" ["_law_feed_here", "_law_many"] spDraw := ⟨⟨f9, _, ok_draw F9 B.len, g9, k9, b9⟩⟩
    have cPick : Cal l.prog w K mg base CX0 2 "_law_pick" ["_law_feed_here", "_law_row"] spPick := ⟨⟨f10, _, ok_pick F10 B.len cDraw, g10, k10, b10⟩⟩
    have cHold : Cal l.prog w K mg base CX0 2 "_law_hold" ["_law_feed_here", "_law_goods", "_law_most"] spHold := ⟨⟨f14, _, ok_hold F14 B cDraw, g14, k14, b14⟩⟩
    have cIH : Cal l.prog w K mg base CX0 1 "is_hold" ["hold", "goods"] spIsHold := ⟨⟨f0, _, ok_isHold F0 B M, g0, k0, b0⟩⟩
    have cLk : Cal l.prog w K mg base (L2.CX l.prog w) 3 "look_lot" ["lot"] (spLook C1) := ⟨⟨f1, _, ok_look F1 B M bad1 cIH, g1, k1, b1⟩⟩
    have cGo : Cal l.prog w K mg base (L2.CX l.prog w) 4 "goods_of" ["lot"] (spGoods C1) := ⟨⟨f2, _, ok_goods F2 B cLk, g2, k2, b2⟩⟩
    have cFi : Cal l.prog w K mg base CX0 1 "first_wrong" ["row", "many"] (spFirst K) := ⟨⟨f3, _, ok_first F3 B ⟨_, PySem.W.mg_of X G v30⟩, g3, k3, b3⟩⟩
    have cLB : Cal l.prog w K mg base (L2.CX l.prog w) 5 "look_bill" ["lot", "bill"] (spLookBill K C1 C2) := ⟨⟨f4, _, ok_lookBill F4 bad2 cFi cGo, g4, k4, b4⟩⟩
    have cSp : Cal l.prog w K mg base CX0 1 "spread" ["shares", "hold"] spSpread := ⟨⟨f5, _, ok_spread F5 B ⟨_, PySem.W.mg_of X G v60⟩, g5, k5, b5⟩⟩
    have cCh : Cal l.prog w K mg base CX0 1 "choices" ["many", "few"] spChoices := ⟨⟨f6, _, ok_choices F6 B, g6, k6, b6⟩⟩
    have cHM : Cal l.prog w K mg base (L2.CX l.prog w) 6 "how_many_of_one" ["lot", "amount"] (spHM1 C1 C2 C3) := ⟨⟨f7, _, ok_hm1 F7 B ⟨_, PySem.W.mg_of X G v60⟩ bad3 cGo cLB cSp cCh, g7, k7, b7⟩⟩
    have cSa : Cal l.prog w K mg base CX0 3 "_law_same" ["_law_found", "_law_due"] (spSame 2) := ⟨⟨f11, _, ok_same F11 B g11 b11 2, g11, k11, b11⟩⟩
    have T : Txt l.prog w K mg base C1 C2 C3 E1 E2 E3 := {
        B := B
        feed := ⟨⟨f8, _, ok_feed F8 B.list, g8, k8, b8⟩⟩
        draw := cDraw
        pick := cPick
        great := ⟨⟨f13, _, ok_great F13 cDraw cPick, g13, k13, b13⟩⟩
        same2 := cSa
        lo := ⟨⟨f15, _, ok_lot F15 B cDraw cHold, g15, k15, b15⟩⟩
        ta := ⟨⟨f16, _, ok_table F16 B, g16, k16, b16⟩⟩
        fi := ⟨⟨f17, _, ok_five F17 cSa cHM, g17, k17, b17⟩⟩
        pl := ⟨⟨f18, _, ok_placeL F18 ⟨PySem.W.mg_of X G aC2, ⟨ga2, gg2, eC2, hC2⟩, nF2, exm_by eC2 iC2 tC2 s22⟩ cHM, g18, k18, b18⟩⟩
        hm := ⟨_, _, ok_hm1 F7 B ⟨_, PySem.W.mg_of X G v60⟩ bad3 cGo cLB cSp cCh, g7, k7, b7, kbHM⟩
        word := ⟨f12, oc12, od12, kV12, dc12, pm12, an12, cd12, ct12, sl12, g12, k12, l12, c12, b12⟩
        cls := ⟨PySem.W.mg_of X G aE1, PySem.W.mg_of X G aE2, PySem.W.mg_of X G aE3⟩
        fC := ⟨⟨ga1, gg1, eC1, hC1⟩, nW1, exm_by eE1 iE1 tE1 s1E, fun z => Bool.noConfusion z⟩
        fB := ⟨⟨ga2, gg2, eC2, hC2⟩, nW2, exm_by eE1 iE1 tE1 s2E, fun z => Bool.noConfusion z⟩
        fO := ⟨⟨ga3, gg3, eC3, hC3⟩, nW3, exm_by eE1 iE1 tE1 s3E, fun z => Bool.noConfusion z⟩ }
    exact ok_law lL cdL T Tb
end HL

open PySem PySem.W PyProof.Rows
set_option maxHeartbeats 0 in
theorem PySem.Challenge.cw_hamperlot_k12_whole_great_amounts_counte_holds : PySem.Challenge.rw_hamperlot_k12_whole_great_amounts_counte.Holds := by
  w_on; o_law; k_head; (case hw => w_witness2)
  k_fill
  refine LamX.walk_ofTs (l := PySem.Challenge.rw_hamperlot_k12_whole_great_amounts_counte) (n := 63) (k := 9) (x := "_law_script") (CX := fun _ => L2.CX0) rfl (by decide) rfl ⟨rfl, by decide, by decide⟩ (fun w h Y => PySem.W.km_in_of Y) ?F (fun _ _ _ _ _ h => h)
  case F =>
    intro w mg fa h Y KX G hmg
    refine' HL.all_mk KX G hmg (PySem.W.km_tabs_of Y _ List.mem_cons_self) ?a0 ?l0 ?c0 ?k0 ?a1 ?l1 ?c1 ?k1 ?a2 ?l2 ?c2 ?k2 ?a3 ?l3 ?c3 ?k3 ?a4 ?l4 ?c4 ?k4 ?a5 ?l5 ?c5 ?k5 ?a6 ?l6 ?c6 ?k6 ?a7 ?l7 ?c7 ?k7 ?a8 ?l8 ?c8 ?k8 ?a9 ?l9 ?c9 ?k9 ?a10 ?l10 ?c10 ?k10 ?a11 ?l11 ?c11 ?k11 ?a12 ?l12 ?c12 ?k12 ?a13 ?l13 ?c13 ?k13 ?a14 ?l14 ?c14 ?k14 ?a15 ?l15 ?c15 ?k15 ?a16 ?l16 ?c16 ?k16 ?a17 ?l17 ?c17 ?k17 ?a18 ?l18 ?c18 ?k18 ?aL ?lL ?cdL ?nP ?hd ?aC1 ?xL1 ?sa1 ?ga1 ?gg1 ?nW1 ?nF1 ?aI1 ?tI1 ?lI1 ?cI1 ?kI1 ?kC1 ?eC1 ?tC1 ?hC1 ?iC1 ?aC2 ?xL2 ?sa2 ?ga2 ?gg2 ?nW2 ?nF2 ?aI2 ?tI2 ?lI2 ?cI2 ?kI2 ?kC2 ?eC2 ?tC2 ?hC2 ?iC2 ?aC3 ?xL3 ?sa3 ?ga3 ?gg3 ?nW3 ?aI3 ?tI3 ?lI3 ?cI3 ?kI3 ?kC3 ?eC3 ?tC3 ?hC3 ?iC3 ?aE1 ?aE2 ?aE3 ?eE1 ?iE1 ?tE1 ?eE2 ?iE2 ?tE2 ?s1E ?s2E ?s3E ?s22 ?v6 ?v5 ?v3 ?v30 ?v60 ?z_len ?z_list ?z_tuple ?z_dict ?z_str ?z_int ?z_bool ?z_isinstance ?z_all ?z_range ?z_sum ?z_min ?z_max ?z_enumerate
    (case a0 => first | k_is | rfl)
    (case l0 => first | k_is | rfl)
    (case c0 => first | k_is | rfl)
    (case k0 => first | k_is | rfl)
    (case a1 => first | k_is | rfl)
    (case l1 => first | k_is | rfl)
    (case c1 => first | k_is | rfl)
    (case k1 => first | k_is | rfl)
    (case a2 => first | k_is | rfl)
    (case l2 => first | k_is | rfl)
    (case c2 => first | k_is | rfl)
    (case k2 => first | k_is | rfl)
    (case a3 => first | k_is | rfl)
    (case l3 => first | k_is | rfl)
    (case c3 => first | k_is | rfl)
    (case k3 => first | k_is | rfl)
    (case a4 => first | k_is | rfl)
    (case l4 => first | k_is | rfl)
    (case c4 => first | k_is | rfl)
    (case k4 => first | k_is | rfl)
    (case a5 => first | k_is | rfl)
    (case l5 => first | k_is | rfl)
    (case c5 => first | k_is | rfl)
    (case k5 => first | k_is | rfl)
    (case a6 => first | k_is | rfl)
    (case l6 => first | k_is | rfl)
    (case c6 => first | k_is | rfl)
    (case k6 => first | k_is | rfl)
    (case a7 => first | k_is | rfl)
    (case l7 => first | k_is | rfl)
    (case c7 => first | k_is | rfl)
    (case k7 => first | k_is | rfl)
    (case a8 => first | k_is | rfl)
    (case l8 => first | k_is | rfl)
    (case c8 => first | k_is | rfl)
    (case k8 => first | k_is | rfl)
    (case a9 => first | k_is | rfl)
    (case l9 => first | k_is | rfl)
    (case c9 => first | k_is | rfl)
    (case k9 => first | k_is | rfl)
    (case a10 => first | k_is | rfl)
    (case l10 => first | k_is | rfl)
    (case c10 => first | k_is | rfl)
    (case k10 => first | k_is | rfl)
    (case a11 => first | k_is | rfl)
    (case l11 => first | k_is | rfl)
    (case c11 => first | k_is | rfl)
    (case k11 => first | k_is | rfl)
    (case a12 => first | k_is | rfl)
    (case l12 => first | k_is | rfl)
    (case c12 => first | k_is | rfl)
    (case k12 => first | k_is | rfl)
    (case a13 => first | k_is | rfl)
    (case l13 => first | k_is | rfl)
    (case c13 => first | k_is | rfl)
    (case k13 => first | k_is | rfl)
    (case a14 => first | k_is | rfl)
    (case l14 => first | k_is | rfl)
    (case c14 => first | k_is | rfl)
    (case k14 => first | k_is | rfl)
    (case a15 => first | k_is | rfl)
    (case l15 => first | k_is | rfl)
    (case c15 => first | k_is | rfl)
    (case k15 => first | k_is | rfl)
    (case a16 => first | k_is | rfl)
    (case l16 => first | k_is | rfl)
    (case c16 => first | k_is | rfl)
    (case k16 => first | k_is | rfl)
    (case a17 => first | k_is | rfl)
    (case l17 => first | k_is | rfl)
    (case c17 => first | k_is | rfl)
    (case k17 => first | k_is | rfl)
    (case a18 => first | k_is | rfl)
    (case l18 => first | k_is | rfl)
    (case c18 => first | k_is | rfl)
    (case k18 => first | k_is | rfl)
    (case aL => first | k_is | rfl)
    (case lL => first | k_is | rfl)
    (case cdL => first | k_is | rfl)
    (case nP => first | k_is | rfl)
    (case hd => first | k_is | rfl)
    (case aC1 => first | k_is | rfl)
    (case xL1 => first | k_is | rfl)
    (case sa1 => first | k_is | rfl)
    (case ga1 => first | k_is | rfl)
    (case gg1 => first | k_is | rfl)
    (case nW1 => first | k_is | rfl)
    (case nF1 => first | k_is | rfl)
    (case aI1 => first | k_is | rfl)
    (case tI1 => first | k_is | rfl)
    (case lI1 => first | k_is | rfl)
    (case cI1 => first | k_is | rfl)
    (case kI1 => first | k_is | rfl)
    (case kC1 => first | k_is | rfl)
    (case eC1 => first | k_is | rfl)
    (case tC1 => first | k_is | rfl)
    (case hC1 => first | k_is | rfl)
    (case iC1 => first | k_is | rfl)
    (case aC2 => first | k_is | rfl)
    (case xL2 => first | k_is | rfl)
    (case sa2 => first | k_is | rfl)
    (case ga2 => first | k_is | rfl)
    (case gg2 => first | k_is | rfl)
    (case nW2 => first | k_is | rfl)
    (case nF2 => first | k_is | rfl)
    (case aI2 => first | k_is | rfl)
    (case tI2 => first | k_is | rfl)
    (case lI2 => first | k_is | rfl)
    (case cI2 => first | k_is | rfl)
    (case kI2 => first | k_is | rfl)
    (case kC2 => first | k_is | rfl)
    (case eC2 => first | k_is | rfl)
    (case tC2 => first | k_is | rfl)
    (case hC2 => first | k_is | rfl)
    (case iC2 => first | k_is | rfl)
    (case aC3 => first | k_is | rfl)
    (case xL3 => first | k_is | rfl)
    (case sa3 => first | k_is | rfl)
    (case ga3 => first | k_is | rfl)
    (case gg3 => first | k_is | rfl)
    (case nW3 => first | k_is | rfl)
    (case aI3 => first | k_is | rfl)
    (case tI3 => first | k_is | rfl)
    (case lI3 => first | k_is | rfl)
    (case cI3 => first | k_is | rfl)
    (case kI3 => first | k_is | rfl)
    (case kC3 => first | k_is | rfl)
    (case eC3 => first | k_is | rfl)
    (case tC3 => first | k_is | rfl)
    (case hC3 => first | k_is | rfl)
    (case iC3 => first | k_is | rfl)
    (case aE1 => first | k_is | rfl)
    (case aE2 => first | k_is | rfl)
    (case aE3 => first | k_is | rfl)
    (case eE1 => first | k_is | rfl)
    (case iE1 => first | k_is | rfl)
    (case tE1 => first | k_is | rfl)
    (case eE2 => first | k_is | rfl)
    (case iE2 => first | k_is | rfl)
    (case tE2 => first | k_is | rfl)
    (case s1E => first | k_is | rfl)
    (case s2E => first | k_is | rfl)
    (case s3E => first | k_is | rfl)
    (case s22 => first | k_is | rfl)
    (case v6 => first | k_is | rfl)
    (case v5 => first | k_is | rfl)
    (case v3 => first | k_is | rfl)
    (case v30 => first | k_is | rfl)
    (case v60 => first | k_is | rfl)
    (case z_len => first | k_is | rfl)
    (case z_list => first | k_is | rfl)
    (case z_tuple => first | k_is | rfl)
    (case z_dict => first | k_is | rfl)
    (case z_str => first | k_is | rfl)
    (case z_int => first | k_is | rfl)
    (case z_bool => first | k_is | rfl)
    (case z_isinstance => first | k_is | rfl)
    (case z_all => first | k_is | rfl)
    (case z_range => first | k_is | rfl)
    (case z_sum => first | k_is | rfl)
    (case z_min => first | k_is | rfl)
    (case z_max => first | k_is | rfl)
    (case z_enumerate => first | k_is | rfl)

