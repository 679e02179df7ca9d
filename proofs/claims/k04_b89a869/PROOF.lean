import PyProof.Rows.All
import Wide.All
import OpenK.AllK
import Wide.FinOn
import PySem.Challenge.RW_hamperlot_k04_goods_seen_and_lots_beside
import HandS.ForMost
import HandS.Exc
import HandS.TryOnly
import HandS.ExcInit
import HandS.ExcField
import HandS.WordsExc
import HandS.Lambda
import HandS.EndTab
import HandS.IsInst
import HandS.TupMul
import HandS.TupAny
import HandS.Walk
import HandS.Defaults
import KE.KTupSum
import KE.DatumOrd
import KE.GoesEnum
import HandS.TryMany
import HandS.Wide
import HandS.Zip
import HandS.SortInts
import HandS.Conv
import KE.KNestM
set_option Elab.async false
set_option linter.all false
set_option maxRecDepth 100000
set_option maxHeartbeats 4000000
/-! Rules of one's own beside the layer's: sum, max, min of a tuple of ints; enumerate of a tuple; a tuple times 1. -/
namespace HL
open PySem PySem.Spec PyProof.Rows L2
section
variable {X : Cx}
theorem tupI {pins : List (Addr × Obj)} {σ : L2.St} {H : Hp} {s : Shared} {a : Addr} {ns : List Int} (I : Inv X pins σ H s) (h : SqT X.K H a (ns.map V.int)) :
    ∃ its : List Value, IntsAre its ns ∧ s.heap.IsTuple a its.toArray := by
  obtain ⟨its, rv, ⟨o, ho, hc, n, hd⟩, _⟩ := I.tuple h
  exact ⟨its, rv.ints, o, ho, hc, n, hd⟩
/-- sum(t) -/
def rSumT (K : PySem.W.Frag) : List V → Hp → VK → Prop := fun vs H Q =>
  ∃ (a : Addr) (ns : List Int), vs = [V.ref a] ∧ SqT K H a (ns.map V.int) ∧ Q (.int ns.sum) H
theorem cr_sumT (hc : X.calm = true) : CallR X (.builtin "sum") (rSumT X.K) := by
  intro pins s σ H vs us Q I r h
  obtain ⟨a, ns, rfl, hs, q⟩ := h
  obtain ⟨its, hi, hl⟩ := tupI I hs
  rw [Vals.ref1 r]
  obtain ⟨xs, e⟩ := hi.allInts.items
  have hn : numsOf (intItems xs).toList = ns := by
    rw [← e]
    exact hi.numsOf
  rw [nums_intItems] at hn
  rw [e] at hl
  refine PySem.W.ktm_sumG (I.ok.hd hc) hl fun h' tk t' hk => ?_
  rw [preSum_eq]
  rw [List.take_of_length_le (by simp), hn]
  exact ⟨.int _, H, I.kept hk, ⟨_, rfl⟩, q⟩
theorem maxOf_le (x : Int) (xs : List Int) : PySem.W.maxOf x xs ∈ x :: xs ∧ ∀ y ∈ x :: xs, y ≤ PySem.W.maxOf x xs := by
  induction xs generalizing x with
  | nil => exact ⟨List.mem_cons_self, fun y hy => by simp at hy; subst hy; exact Int.le_refl _⟩
  | cons z zs ih =>
    have e : PySem.W.maxOf x (z :: zs) = PySem.W.maxOf (if PySem.W.DatumOrd.lt x z = true then z else x) zs := rfl
    have d : (PySem.W.DatumOrd.lt x z = true) ↔ x < z := by
      show decide (x < z) = true ↔ x < z
      exact decide_eq_true_iff
    rw [e]
    by_cases c : x < z
    · rw [if_pos (d.mpr c)]
      obtain ⟨h1, h2⟩ := ih z
      refine ⟨List.mem_cons_of_mem _ h1, fun y hy => ?_⟩
      rcases List.mem_cons.mp hy with r | r
      · have := h2 z List.mem_cons_self
        omega
      · exact h2 y r
    · rw [if_neg (fun q => c (d.mp q))]
      obtain ⟨h1, h2⟩ := ih x
      refine ⟨?_, fun y hy => ?_⟩
      · rcases List.mem_cons.mp h1 with r | r
        · rw [r]; exact List.mem_cons_self
        · exact List.mem_cons_of_mem _ (List.mem_cons_of_mem _ r)
      · rcases List.mem_cons.mp hy with r | r
        · have := h2 x List.mem_cons_self
          omega
        · rcases List.mem_cons.mp r with r | r
          · have := h2 x List.mem_cons_self
            omega
          · exact h2 y (List.mem_cons_of_mem _ r)
theorem minOf_le (x : Int) (xs : List Int) : PySem.W.minOf x xs ∈ x :: xs ∧ ∀ y ∈ x :: xs, PySem.W.minOf x xs ≤ y := by
  induction xs generalizing x with
  | nil => exact ⟨List.mem_cons_self, fun y hy => by simp at hy; subst hy; exact Int.le_refl _⟩
  | cons z zs ih =>
    have e : PySem.W.minOf x (z :: zs) = PySem.W.minOf (if PySem.W.DatumOrd.lt z x = true then z else x) zs := rfl
    have d : (PySem.W.DatumOrd.lt z x = true) ↔ z < x := by
      show decide (z < x) = true ↔ z < x
      exact decide_eq_true_iff
    rw [e]
    by_cases c : z < x
    · rw [if_pos (d.mpr c)]
      obtain ⟨h1, h2⟩ := ih z
      refine ⟨List.mem_cons_of_mem _ h1, fun y hy => ?_⟩
      rcases List.mem_cons.mp hy with r | r
      · have := h2 z List.mem_cons_self
        omega
      · exact h2 y r
    · rw [if_neg (fun q => c (d.mp q))]
      obtain ⟨h1, h2⟩ := ih x
      refine ⟨?_, fun y hy => ?_⟩
      · rcases List.mem_cons.mp h1 with r | r
        · rw [r]; exact List.mem_cons_self
        · exact List.mem_cons_of_mem _ (List.mem_cons_of_mem _ r)
      · rcases List.mem_cons.mp hy with r | r
        · have := h2 x List.mem_cons_self
          omega
        · rcases List.mem_cons.mp r with r | r
          · have := h2 x List.mem_cons_self
            omega
          · exact h2 y (List.mem_cons_of_mem _ r)
/-- max(t), min(t) of ints -/
def rMaxT (K : PySem.W.Frag) : List V → Hp → VK → Prop := fun vs H Q =>
  ∃ (a : Addr) (ns : List Int), vs = [V.ref a] ∧ SqT K H a (ns.map V.int) ∧ 0 < ns.length ∧ ∀ m, m ∈ ns → (∀ y ∈ ns, y ≤ m) → Q (.int m) H
def rMinT (K : PySem.W.Frag) : List V → Hp → VK → Prop := fun vs H Q =>
  ∃ (a : Addr) (ns : List Int), vs = [V.ref a] ∧ SqT K H a (ns.map V.int) ∧ 0 < ns.length ∧ ∀ m, m ∈ ns → (∀ y ∈ ns, m ≤ y) → Q (.int m) H
theorem int_of_holds {h : Heap} {v : Value} {x : Int} (H : PySem.W.Holds h v x) : ∃ t, v = Value.int x t := by
  have z := PySem.W.HoldAll.toInts (PySem.W.HoldAll.cons H PySem.W.HoldAll.nil)
  cases z with
  | cons n t z => exact ⟨t, rfl⟩
theorem cr_maxT (hc : X.calm = true) (hu : X.A.units + 64 < cLine) : CallR X (.builtin "max") (rMaxT X.K) := by
  intro pins s σ H vs us Q I r h
  obtain ⟨a, ns, rfl, hs, hne, q⟩ := h
  obtain ⟨its, hi, hl⟩ := tupI I hs
  rw [Vals.ref1 r]
  cases ns with
  | nil => simp at hne
  | cons x xs =>
    refine PySem.W.max_tuple_datum (x := x) (xs := xs) (I.ok.hd hc) hl (PySem.W.HoldAll.of_ints (by simpa using hi)) (by show X.A.units + 1 + 0 < cLine; omega) fun i v h' tk _ hv hk => ?_
    obtain ⟨t, rfl⟩ := int_of_holds hv
    obtain ⟨h1, h2⟩ := maxOf_le x xs
    exact ⟨.int _, H, I.kept hk, ⟨_, rfl⟩, q _ h1 h2⟩
theorem cr_minT (hc : X.calm = true) (hu : X.A.units + 64 < cLine) : CallR X (.builtin "min") (rMinT X.K) := by
  intro pins s σ H vs us Q I r h
  obtain ⟨a, ns, rfl, hs, hne, q⟩ := h
  obtain ⟨its, hi, hl⟩ := tupI I hs
  rw [Vals.ref1 r]
  cases ns with
  | nil => simp at hne
  | cons x xs =>
    refine PySem.W.min_tuple_datum (x := x) (xs := xs) (I.ok.hd hc) hl (PySem.W.HoldAll.of_ints (by simpa using hi)) (by show X.A.units + 1 + 0 < cLine; omega) fun i v h' tk _ hv hk => ?_
    obtain ⟨t, rfl⟩ := int_of_holds hv
    obtain ⟨h1, h2⟩ := minOf_le x xs
    exact ⟨.int _, H, I.kept hk, ⟨_, rfl⟩, q _ h1 h2⟩
end
end HL

namespace HL
open PySem PySem.Spec PyProof.Rows L2
open AutoSeq1 (wpAny_loadPart')
/-! enumerate(t), t a tuple -/
abbrev oIt (t : Addr) : Obj := { cls := .type "tuple_iterator", data := .fields #[.ref t, .int 0 0] }
abbrev oEn (i : Addr) : Obj := { cls := .type "enumerate", data := .fields #[.none, .bool false, .ref i, rawInt 0, .none, .none] }
theorem meets_enumT (t : Addr) (items : Array Value) (o : Obj) (tyE : ∀ h : Heap, h.get? t = some o → h.IsTuple t items) :
    Meets (Builtin.«enumerate.__new__» ⟨[.type "enumerate", .ref t], []⟩)
      (fun _ R s => s.heap.get? t = some o ∧ R (.ok (.ret (.ref (s.heap.push (oIt t)).objs.size))) { s with heap := (s.heap.push (oIt t)).push (oEn s.heap.objs.size) }) :=
  .of_wp fun prog w A R s h => by
    obtain ⟨hp, g, d, tk, os⟩ := s
    obtain ⟨hl, h⟩ := h
    have hsub := sub_enumerate
    have hL : Heap.IsTuple (Shared.heap ⟨hp, g, d, tk, os⟩) t items := tyE _ hl
    wp_walk using wpAny_loadPart' hl
    refine wpAny_stack_any fun stk => wpAny_pure ?_
    split
    · rename_i c _ _ _ _ _
      cases (c == Value.type "enumerate") <;> (wp_walk using wpAny_loadPart' hl, wpAny_pyIter_tuple hL; exact ⟨_, rfl, h⟩)
    · wp_walk using wpAny_loadPart' hl, wpAny_pyIter_tuple hL
      exact ⟨_, rfl, h⟩
theorem call_enumT {prog : Program} {w : World} {A : Around} {E : Value → Shared → Prop} {s : Shared} {t : Addr} {items : Array Value} {Q : Value → Shared → Prop} (hL : s.heap.IsTuple t items)
    (h : ∀ h', IsEnum h' (s.heap.objs.size + 1) s.heap.objs.size 0 .none → h'.IsTupleIter s.heap.objs.size t 0 →
      (∀ b o, s.heap.get? b = some o → h'.get? b = some o) → Q (.ref (s.heap.objs.size + 1)) { s with heap := h' }) :
    wpAny (model prog w) A (call (.type "enumerate") [.ref t]) Q E s := by
  obtain ⟨o, hl, hc, n, hd⟩ := hL
  refine callType_new F.called_enumerate (by decide) (F.typeCall_enumerate_1 _) (F.newCall_enumerate_1 _) (fun obj => F.args_object_init_2 obj _) F.entry_enumerate_new
    (meets_enumT t items o fun h' e => ⟨o, e, hc, n, hd⟩) ⟨hl, ?_⟩
  have hz : (s.heap.push (oIt t)).objs.size = s.heap.objs.size + 1 := Heap.size_push ..
  show _ ∧ _
  rw [hz]
  have hen : IsEnum ((s.heap.push (oIt t)).push (oEn s.heap.objs.size)) (s.heap.objs.size + 1) s.heap.objs.size 0 .none := by
    have q := Heap.get?_push_size (s.heap.push (oIt t)) (o := oEn s.heap.objs.size) rfl
    rw [hz] at q
    exact q
  exact ⟨⟨_, hen, rfl⟩, h _ hen ⟨_, Heap.get?_push_of_some _ (Heap.get?_push_size _ rfl), rfl, rfl⟩ fun b o x => Heap.get?_push_of_some _ (Heap.get?_push_of_some _ x)⟩
theorem enum_endT {prog : Program} {w : World} {A : Around} {E : Value → Shared → Prop} {s : Shared} {e it t : Addr} {i : Nat} {items : Array Value} {old : Value} {Q : Option Value → Shared → Prop}
    (hh : A.handled = none) (hen : IsEnum s.heap e it i old) (hit : s.heap.IsTupleIter it t i) (hl : s.heap.IsTuple t items) (hx : items[i]? = none)
    (wish : ∀ h', Heap.ExtBut it s.heap h' → Q none { s with heap := h' }) : wpAny (model prog w) A (pyNext (.ref e)) Q E s := by
  have tyE : s.TypeIs (.ref e) "enumerate" := ⟨_, hen, rfl⟩
  unfold pyNext
  refine wpAny_bind (wpAny_attempt (wpAny_callSpecial?_slot (name := Str.ofString "__next__") tyE F.slot_enumerate_next (wpAny_call_entry F.slot_enumerate_next tyE F.entry_enumerate_next ?_ (F.args_enumerate_next_1 _))))
  show wpAny _ _ (field (.ref e) 2 >>= _) _ _ _
  refine wpAny_bind (wpAny_field hen rfl (x := .ref it) rfl (wpAny_bind (wpAny_nextOf_tuple_end hh hit hl hx fun h' x hen' hx' => ?_)))
  obtain ⟨o, ho, hc⟩ := hx'
  exact wpAny_bind (wpAny_isInstance (T := "StopIteration") (b := true) ⟨o, ho, hc⟩ isSubtype_stop (wpAny_pure (wish _ hen')))
/-- the tuple at a, each item in a new pair -/
def IteT (K : PySem.W.Frag) (a : Addr) : It where
  go := fun i H => ∃ (xs : List V) (x : V), SqT K H a xs ∧ xs[i]? = some x
  yld := fun i H v H' => ∃ T x, v = .ref T ∧ H T = none ∧ H' = upd H T (.tup [.int (i : Nat), x]) ∧ ∀ xs, SqT K H a xs → xs[i]? = some x
  stop := fun i H => ∃ xs : List V, SqT K H a xs ∧ xs.length ≤ i
theorem turn_enumT {P : Program} {w : World} {K : PySem.W.Frag} {elts : List Expr} {kk : Nat} {tpos : Pos} (a e it : Addr) (hai : a ≠ it) :
    Turn P w K (.Tuple elts kk tpos) (IteT K a) [e, it] e (fun i h => (∃ old, IsEnum h e it ((i : Nat) : Int) old) ∧ h.IsTupleIter it a i ∧ e ≠ it ∧ e ≠ a) where
  mem := by simp
  obj := fun i h sta b hb => by
    obtain ⟨⟨old, hen⟩, ⟨o, ho, hc, hd⟩, _⟩ := sta
    have e' : b = e ∨ b = it := by simpa using hb
    rcases e' with z | z
    · rw [z]
      exact ⟨_, hen, fun v q => nomatch q⟩
    · rw [z]
      exact ⟨o, ho, fun v q => by rw [hd] at q; cases q⟩
  keep := fun i h h' sta k => by
    obtain ⟨⟨old, hen⟩, hi, hne⟩ := sta
    exact ⟨⟨old, k e (by simp) _ hen⟩, hi.at fun o q => k it (by simp) o q, hne⟩
  item := by
    intro X hP hw hK hc i pins s σ H E I fpk sta hg
    subst hP hw hK
    obtain ⟨⟨old, hen⟩, hit, hne, hea⟩ := sta
    obtain ⟨xs, x, hq, hx⟩ := hg
    obtain ⟨its, rv, ⟨ot, hot, hct, nt, hdt⟩, hz⟩ := I.tuple hq
    have tyE : s.heap.IsTuple a its.toArray := ⟨ot, hot, hct, nt, hdt⟩
    obtain ⟨u, hu, ru⟩ := rv.get hx
    have hlt : i < its.toArray.size := by
      have := (List.getElem?_eq_some_iff.mp hu).1
      simpa using this
    have elt : e < s.heap.objs.size := Heap.lt_size hen
    have hil : it < s.heap.objs.size := by
      obtain ⟨_, q, _⟩ := hit
      exact Heap.lt_size q
    refine wpAny_pyNext_enum_itemD (Draws.tuple (A := X.A.in1) (I.ok.hd hc) it a hai its.toArray) hen ⟨hit, tyE⟩ hlt hne (by simp [hne, hea]) fun z h' tk hz' ho hit' hTn hsz kep => ?_
    have ez : z = u := by
      have q : its[i]? = some z := by simpa using hz'
      rw [hu] at q
      exact (Option.some.inj q).symm
    subst ez
    refine ⟨_, rfl, wpAny_letOwnedTupleGo_enum (s := { s with heap := h', toks := tk + 1 }) ho fun h'' hen' smb => ?_⟩
    have hT2 : h''.get? s.heap.objs.size = some { cls := .type "tuple", data := .seq #[.int i tk, z] } := (smb.2 _ (Nat.ne_of_gt elt)).trans hTn
    have new : ObjOk X.prog X.w (upd H s.heap.objs.size (.tup [.int (i : Nat), x])) h'' s.heap.objs.size (.tup [.int (i : Nat), x]) :=
      ⟨by show 2 ≤ sizeLine; decide, [.int i tk, z], .cons ⟨_, rfl⟩ (.cons ru .nil), ⟨_, hT2, rfl, _, rfl⟩⟩
    have I1 : Inv X pins σ (upd H s.heap.objs.size (.tup [.int (i : Nat), x])) { s with heap := h'', toks := tk + 1 } :=
      I.turnedNew (ch := [e, it]) (fun b ob hb q => (smb.2 b (fun z => hb (by simp [z]))).trans (kep b ob (fun z => hb (by simp [z])) (fun z => hb (by simp [z])) q)) fpk (Nat.le_refl _) new
    refine ⟨.ref s.heap.objs.size, _, I1, rfl, ⟨_, x, rfl, I.hok.fresh (Nat.le_refl _), rfl, fun ys hy => ?_⟩, ⟨⟨z, ?_⟩, hit'.1.at fun o q => (smb.2 it (Ne.symm hne)).trans q, hne, hea⟩, fun b hb => ?_⟩
    · rw [I.tuple_inj hy hq]
      exact hx
    · have eqi : ((i + 1 : Nat) : Int) = (i : Int) + 1 := by omega
      rw [eqi]
      exact hen'
    · have hb' : b < s.heap.objs.size := by
        have e' : b = e ∨ b = it := by simpa using hb
        rcases e' with z | z
        · rw [z]
          exact elt
        · rw [z]
          exact hil
      rw [upd_ne (Nat.ne_of_lt hb')]
      exact (fpk b hb).1
  done := by
    intro X hP hw hK hc i pins s σ H E I fpk sta hg
    subst hP hw hK
    obtain ⟨⟨old, hen⟩, hit, hne, hea⟩ := sta
    obtain ⟨xs, hq, hx⟩ := hg
    obtain ⟨its, rv, ⟨ot, hot, hct, nt, hdt⟩, hz⟩ := I.tuple hq
    obtain ⟨p0, p1, p2, p3, p4, p5⟩ := fpk it (by simp)
    have hl := rv.length
    refine enum_endT (I.ok.hd hc) hen hit ⟨ot, hot, hct, nt, hdt⟩ (by simp; omega) fun h' eb => ⟨rfl, I.turned (t' := s.toks) (fun b o hb q => eb b o hb q) p0 p1 p3 p4 p5⟩
  self := fun A i s Q E sta h => let ⟨⟨_, hen⟩, _⟩ := sta; wpAny_pyIter_enum hen h
def iEnumT (K : PySem.W.Frag) (ta : TA) : TI := fun σ H R => ta σ H fun vs H1 => ∃ a xs, vs = [.ref a] ∧ SqT K H1 a xs ∧ R (IteT K a) H1
theorem pi_enumT {X : Cx} {e : Expr} {ta : TA} {p pos tpos : Pos} {elts : List Expr} {kk : Nat} (hg : Gl X "enumerate") (hm : X.mg "enumerate" = none) (ha : PA X [e] ta)
    (hs : starEach [e] X.env = [(false, eval e X.env)] := by rfl) : PI X (.Tuple elts kk tpos) (.Call (.Name "enumerate" p) [e] [] pos) (iEnumT X.K ta) := by
  refine ⟨fun pins s σ H R I h => ?_⟩
  refine Call_ (ld_blt I hg hm boot_enumerate (PyProof.Rows.callWith_type1 (thn (ha.run pos pins s σ H _ I h) fun us sA ⟨vs, H1, I1, r1, q1⟩ => ?_) hs rfl))
  obtain ⟨a, xs, ex, hq, q⟩ := q1
  subst ex
  rw [Vals.ref1 r1]
  obtain ⟨its, rv, ⟨ot, hot, hct, nt, hdt⟩, hz⟩ := I1.tuple hq
  have hla : a < sA.heap.objs.size := Heap.lt_size hot
  refine call_enumT (items := its.toArray) ⟨ot, hot, hct, nt, hdt⟩ fun h' hen hit kep => wpAny_pyIter_enum hen ?_
  have JB : Inv X pins σ H1 { sA with heap := h' } := I1.kept (t' := sA.toks) kep
  refine ⟨sA.heap.objs.size + 1, [sA.heap.objs.size + 1, sA.heap.objs.size], _, _, H1, rfl, JB, turn_enumT a (sA.heap.objs.size + 1) sA.heap.objs.size (Nat.ne_of_lt hla),
    ⟨⟨.none, hen⟩, hit, Nat.succ_ne_self _, Nat.ne_of_gt (Nat.lt_succ_of_lt hla)⟩, fun b hb => ?_, q⟩
  have e' : b = sA.heap.objs.size + 1 ∨ b = sA.heap.objs.size := by simpa using hb
  have hle : sA.heap.objs.size ≤ b := by
    rcases e' with z | z
    · rw [z]
      exact Nat.le_add_right _ _
    · rw [z]
      exact Nat.le_refl _
  exact I1.fpOk hle (I1.hok.fresh hle)
end HL

namespace HL
open PySem PySem.Spec PyProof.Rows L2
open AutoSeq1 (wpAny_loadPart')
/-! t * k, k from 1 on: once is the tuple itself -/
theorem tuple_mul1 (l : Addr) (items : Array Value) (n : Nat) (dd : Option Addr) (sl : Array (Option Value)) (u : Tok) :
    Meets (Builtin.«tuple.__mul__» ⟨[.ref l, .int 1 u], []⟩)
      (fun _ R s => s.heap.get? l = some { cls := .type "tuple", dict := dd, data := .seq items n, slots := sl } ∧ R (.ok (.ret (.ref l))) s) :=
  .of_wp fun prog w A R s h => by
    obtain ⟨hp, g, d, tk, os⟩ := s
    obtain ⟨hl, h⟩ := h
    have f1 := AutoSeq1.idx_int
    have ht : Shared.TypeIs ⟨hp, g, d, tk, os⟩ (.ref l) "tuple" := ⟨_, hl, rfl⟩
    wp_walk using wpAny_loadPart' hl
    repeat (first
      | (refine wpAny_ite_false (by decide) ?_; wp_walk using wpAny_loadPart' hl)
      | (refine wpAny_ite_true (by cases items.isEmpty <;> decide) ?_; wp_walk using wpAny_loadPart' hl)
      | (refine wpAny_typeOf ht ?_; wp_walk using wpAny_loadPart' hl)
      | (refine wpAny_bind (wpAny_typeOf ht ?_); wp_walk using wpAny_loadPart' hl))
    exact ⟨_, rfl, h⟩
def rRepA (K : PySem.W.Frag) : R2 := fun x y H Q => ∃ l k xs, x = .ref l ∧ y = .int k ∧ SqT K H l xs ∧ xs ≠ [] ∧ 1 ≤ k ∧ k ≤ 1000 ∧ xs.length ≤ 1000 ∧
  (k = 1 → Q (.ref l) H) ∧ (k ≠ 1 → ∀ p, H p = none → Q (.ref p) (upd H p (.tup (List.replicate k.toNat xs).flatten)))
theorem op_repA {X : Cx} : OpR X (binaryOp .Mult) (rRepA X.K) := by
  intro pins s σ H x y v u Q I rx ry h
  obtain ⟨l, k, xs, rfl, rfl, hT, hne, h1, h2, hz, q1, q2⟩ := h
  by_cases hk : k = 1
  · subst hk
    have rx' := rx
    cases rx
    obtain ⟨t, rfl⟩ := ry
    obtain ⟨its, r, ⟨⟨cl, dd, dat, sl⟩, ho, hc, n, hd⟩, _⟩ := I.tuple hT
    simp only at hc hd
    subst hc hd
    exact wpAny_binaryOp_repeat_ref (T := "tuple") (U := "int") (by decide) ⟨_, ho, rfl⟩ (fun s' => typeIs_int s' 1 t) noFill_tuple_mul F.fills_int_mul F.slot_int_rmul repeat_tuple F.slot_int_index.lookup
      (call_meets F.slot_int_rmul (typeIs_int s 1 t) F.entry_int_rmul (F.args_int_rmul_2 _ _) (int_rmul_tuple 1 t l its.toArray n dd sl)
        ⟨ho, rfl, ⟨_, ho, rfl⟩, call_meets F.slot_tuple_mul ⟨_, ho, rfl⟩ F.entry_tuple_mul (F.args_tuple_mul_2 _ _) (tuple_mul1 l its.toArray n dd sl t) ⟨ho, ⟨.ref l, H, I, rfl, q1 rfl⟩⟩⟩)
  · exact op_repT pins s σ H _ _ v u Q I rx ry ⟨l, k, xs, rfl, rfl, hT, hne, by omega, h2, hz, q2 hk⟩
end HL

namespace HL
open PySem PySem.Spec PyProof.Rows L2
/-! several except clauses, each with a name -/
/-- behind a suite the name's slot is empty -/
abbrev offE (i : Nat) (D : Ends) : Ends := { nx := fun σ' H' => D.nx (σ'.set i none) H', rt := D.rt, bk := fun σ' H' => D.bk (σ'.set i none) H', ct := fun σ' H' => D.ct (σ'.set i none) H' }
def wManyA (K : PySem.W.Frag) (i : Nat) (Wout : WX) (D : Ends) : List (Value × (Addr → Value → Option Addr → TS)) → WX
  | [] => Wout
  | (c, ts) :: r => fun cls d σ H => ∃ b, PySem.W.exmOne K cls c = some b ∧ (b = true → ∀ a, H a = none → ts a cls d (offE i D) (σ.set i (some (.ref a))) H) ∧ (b = false → wManyA K i Wout D r cls d σ H)
inductive HdsA (X : Cx) (n : Str) : List ExceptHandler → List (Value × (Addr → Value → Option Addr → TS)) → Prop
  | nil : HdsA X n [] []
  | cons {x : Str} {c : Value} {ts : Addr → Value → Option Addr → TS} {b₀ : Stmt} {suite : List Stmt} {np pos' : Pos} {hds : List ExceptHandler} {l : List (Value × (Addr → Value → Option Addr → TS))} (hc : Names X x c)
      (hsu : ∀ (a : Addr) (oe : Obj) (cls : Value) (d : Option Addr) (pn : List (Addr × Obj)), Zc cls d oe → (∃ vs, oe.data = .fields vs) → PSs (X.suite a ((a, oe) :: pn)) (b₀ :: suite) (ts a cls d)) (r : HdsA X n hds l) :
      HdsA X n (.ExceptHandler (some (.Name x np)) (some n) (b₀ :: suite) pos' :: hds) ((c, ts) :: l)
section
variable {X : Cx} {n : Str} {i : Nat} {body : List Stmt} {h₀ : ExceptHandler} {hds : List ExceptHandler} {l : List (Value × (Addr → Value → Option Addr → TS))} {pos : Pos} {tb : WX → TS} {Wout : WX}
theorem ps_try_manyA (hs : X.stack = X.env :: X.outer) (hf : X.env.frame = some X.env.locals) (hN : X.N.Nodup) (hi : X.N[i]? = some n) (hln : X.env.kindOf n = some .local) (tk : Takes X Wout)
    (hb : ∀ (W : WX) (pn : List (Addr × Obj)) (xe : Value → Shared → Prop), Takes (X.tr pn xe) W → PassesOwn (model X.prog X.w) X.A X.env xe → PSs (X.tr pn xe) body (tb W)) (hh : HdsA X n (h₀ :: hds) l) :
    PS X (.Try body (h₀ :: hds) [] [] pos) (fun D σ H => tb (wManyA X.K i Wout D l) D σ H) := by
  refine ⟨fun pins s σ H D I hTB => ?_⟩
  have okI := I.ok
  have frA : X.A.frames = some (X.env :: X.outer) := by rw [okI.frames, hs]
  have locN : Loc X.env.scope n := .inl hln
  refine wpAny_Try_except (wpAny_mono ((hb (wManyA X.K i Wout D l) (X.pn ++ pins) (fun e sa => wpAny (model X.prog X.w) X.A (noteFrame e X.env) (fun _ sb => wpAny (model X.prog X.w) X.A (setFlight e none) (fun _ sc =>
    wpAny (model X.prog X.w) X.A (handleBy e X.env (h₀ :: hds)) (SP X pins D) X.xe sc) X.xe sb) X.xe sa) (fun u s' xx => ?_) PassesOwn.looking).run [] s σ H D (I.toTry _) hTB) (fun f sq hsp => ?_) (fun e sq he => he))
  · obtain ⟨a, B, sI, pins', σ', H', cls, d, rfl, J', nb, up, sky, na, os, ag, wsh⟩ := xx
    have J : Inv X pins σ' H' sI := J'.ofTry okI
    have skyE : Sky B (X.env :: X.outer) a (Zc cls d) X.env.locals s'.heap := by rw [← hs]; exact sky
    show wpAny (model X.prog X.w) X.A (noteFrame (.ref a) X.env) _ _ _
    refine Sky.land Zc.steady frA hf skyE fun hC flC upC => ?_
    have JC : Inv X pins σ' H' { s' with heap := hC } := J.landed nb flC.1 (up.trans upC) os ag
    obtain ⟨oC, vC, heC, hzC, hdC⟩ := flC.there
    have notFr : a ∉ frs (X.env :: X.outer) := fun hm => by
      obtain ⟨_, o', e', hnf⟩ := flC.2.2.1.mem hm
      rw [heC] at e'
      cases e'
      exact hnf _ hdC
    have nL : a ≠ X.env.locals := fun z => notFr (List.mem_filterMap.mpr ⟨X.env, List.mem_cons_self, by rw [hf, z]⟩)
    have nF : a ∉ X.fs := fun hm => by
      obtain ⟨e, he, q⟩ := List.mem_filterMap.mp hm
      exact notFr (List.mem_filterMap.mpr ⟨e, List.mem_cons_of_mem _ he, q⟩)
    have SC := JC.suite heC hdC na nL nF
    have go : ∀ {hd2 : List ExceptHandler} {l2 : List (Value × (Addr → Value → Option Addr → TS))}, HdsA X n hd2 l2 → wManyA X.K i Wout D l2 cls d σ' H' → wpAny (model X.prog X.w) X.A (handleBy (.ref a) X.env hd2) (SP X pins D) X.xe { s' with heap := hC } := by
      intro hd2 l2 hk
      induction hk with
      | nil =>
        intro wn
        refine wpAny_handleBy_nil ?_
        obtain ⟨k1, k2, k3, oe, vs, T, oT, ts', he, hz, hd, h1, hr⟩ := id flC
        unfold PySem.passOn
        refine wpAny_bind (wpAny_field he hd h1 ?_)
        rw [if_neg (show ¬ ((Value.ref T == Value.none) = true) from by simp)]
        have fin : wpAny (model X.prog X.w) X.A (setFlight (.ref a) X.env.frame) (fun _ sd => wpAny (model X.prog X.w) X.A (throw (.ref a) : Sem Flow) (SP X pins D) X.xe sd) X.xe { s' with heap := hC } := by
          rw [hf]
          refine HandSPX.setFlight_upZ flC fun hD hhD upD => wpAny_throw (tk _ _ ?_)
          exact ⟨a, B, sI, pins, σ', H', cls, d, rfl, J, nb, (up.trans upC).trans upD, .inr (.inr (by rw [hs]; exact hhD)), na, os, ag, wn⟩
        first
          | exact wpAny_bind (wpAny_pure (wpAny_bind fin))
          | exact wpAny_bind fin
      | @cons x c ts b₀ suite np pos' hd3 l3 hc hsu r ih =>
        intro wn
        obtain ⟨b, hb1, hyes, hno⟩ := wn
        refine wpAny_handleBy_cons (codeAny_handlers_test ?_) (by intro q; cases q)
        have LT : PySem.W.Looks (model X.prog X.w) hC (typeOf (.ref a)) cls := fun A Q E s k q => wpAny_typeOf_ref (k _ _ heC) (by rw [hzC.1]; exact q)
        have LM := PySem.W.exm_one (M := model X.prog X.w) (JC.kIn) LT hb1
        have look : ∀ {Q : Value → Shared → Prop} {E : Value → Shared → Prop}, Q c { s' with heap := hC } → wpAny (model X.prog X.w) (X.A.mark (some (.ref a))) (eval (.Name x np) X.env) Q E { s' with heap := hC } := fun {Q E} q => by
          obtain ⟨hg, hdbg, hm | ⟨hm, hv, hnn⟩⟩ := hc
          · exact ld_glob (X := X.suite a ((a, oC) :: (X.pn ++ pins))) SC hg hm q hdbg
          · exact ld_blt (X := X.suite a ((a, oC) :: (X.pn ++ pins))) SC hg hm hv q hnn hdbg
        refine look (LM.here ?_)
        cases b with
        | false =>
          show wpAny _ X.A (handleBy (.ref a) X.env hd3) _ _ _
          exact ih (hno rfl)
        | true =>
          refine codeAny_handlers_suite_as (HandSPX.lands_againZ flC fun hD flD upD => ?_)
          have JD : Inv X pins σ' H' { s' with heap := hD } := J.landed nb flD.1 ((up.trans upC).trans upD) os ag
          obtain ⟨oD, vD, heD, hzD, hdD⟩ := flD.there
          have SD := JD.suite heD hdD na nL nF
          refine store_ok (X := X.suite a ((a, oD) :: (X.pn ++ pins))) (v := .ref a) SD hN hi locN rfl (fun sE SE => ?_) (.inr hln)
          refine wpAny_mono ((hsu a oD cls d (X.pn ++ pins) hzD ⟨_, hdD⟩).run [] sE _ H' _ SE (hyes rfl a na)) (fun f sG hsp => ?_) (fun _ _ z => False.elim z)
          have off : ∀ {σG : L2.St} {HG : Hp} {Q : Shared → Prop}, Inv (X.suite a ((a, oD) :: (X.pn ++ pins))) [] σG HG sG → (∀ sH, Inv X pins (σG.set i none) HG sH → Q sH) →
              wpAny (model X.prog X.w) X.A (do bindName X.env n .none; unbindBehindTheSuite X.env n pos') (fun _ sH => Q sH) X.xe sG := fun {σG HG Q} SG hq => gone_ok (SG.unsuite okI) hN hi hln hq
          cases f with
          | ret u =>
            obtain ⟨vG, σG, HG, SG, rG, qG⟩ := hsp
            exact off SG fun sH JH => ⟨_, _, _, JH, rG, qG⟩
          | next =>
            obtain ⟨σG, HG, SG, qG⟩ := hsp
            exact off SG fun sH JH => ⟨_, _, JH, qG⟩
          | brk =>
            obtain ⟨σG, HG, SG, qG⟩ := hsp
            exact off SG fun sH JH => ⟨_, _, JH, qG⟩
          | cont =>
            obtain ⟨σG, HG, SG, qG⟩ := hsp
            exact off SG fun sH JH => ⟨_, _, JH, qG⟩
    exact go hh wsh
  · cases f with
    | ret u =>
      obtain ⟨v, σ', H', J', r, q⟩ := hsp
      exact ⟨v, σ', H', J'.ofTry okI, r, q⟩
    | next =>
      obtain ⟨σ', H', J', q⟩ := hsp
      exact wpAny_execs_nil ⟨σ', H', J'.ofTry okI, q⟩
    | brk =>
      obtain ⟨σ', H', J', q⟩ := hsp
      exact ⟨σ', H', J'.ofTry okI, q⟩
    | cont =>
      obtain ⟨σ', H', J', q⟩ := hsp
      exact ⟨σ', H', J'.ofTry okI, q⟩
end
end HL

namespace HL
open PySem PySem.Spec PyProof.Rows L2
open LamX (CodeO Tabs TabB ExtN LamS lamEnv lamCx lam_start2 lam_make2 run_ofS tLam)
/-! what a def got is asked, its own slots known where that raises -/
/-- the asking def's context, entered at s -/
abbrev gCx (X : Cx) (Ng : List Str) (q : Str) (sg : Scope) (g : Addr) (cd : Value) (s : Shared) (H : Hp) : Cx := cxOf C8.CX0 X.prog X.w X.K X.mg X.base Ng q sg g cd X.A X.stack s H C8.E0
/-- the lambda that was made -/
abbrev lamO (X : Cx) (ps : Arguments) (b : Expr) (sc : Scope) (pm : Value) (c' : Addr) (ct : Value) : Obj := PySem.W.kla_obj "<lambda>" (X.env.qual ++ "<lambda>") ps b sc (cloFrom X.env.cells sc.names []) pm c' ct
theorem act_at {X : Cx} {pins : List (Addr × Obj)} {σ : L2.St} {H : Hp} {s : Shared} {Ng : List Str} {q : Str} {sg : Scope} {g f c' : Addr} {cd pm ct : Value} {ps : Arguments} {b : Expr} {sc : Scope} {k i : Nat} {a : Str} {pn : List (Addr × Obj)} {xe : Value → Shared → Prop} {W : WX} {E : XK} {tb : TE} {p1 p2 : Pos} {σ0 : L2.St}
    (I : Inv X pins σ H s) (L : LamS X.env.scope sc) (hf : s.heap.get? f = some (lamO X ps b sc pm c' ct)) (hn : H f = none) (hfr : f ∉ frs X.stack)
    (hb : bindArgs (PySem.W.kla_fn "<lambda>" (X.env.qual ++ "<lambda>") ps b sc (cloFrom X.env.cells sc.names []) pm (.ref c') ct) ⟨[], []⟩ = pure [])
    (tk : Takes ((gCx X Ng q sg g cd s H).tr pn xe) W) (hW : ∀ cls d H', E cls d H' → W cls d σ0 H') (hr : Room (k + 1) (X.A.deeper (envOfC q sg s.heap.objs.size g cd)))
    (hbody : ∀ (A : Around) (o : List Env) (s : Shared) (H : Hp), Room k (A.deeper (lamEnv X sc s.heap.objs.size f c')) → PE (lamCx X A o s H E sc f c') b tb)
    (hN : Ng[i]? = some a) (hv : Vis sg a) (d1 : (a == ("__debug__" : Str)) = false) (d2 : (a == ("__classdict__" : Str)) = false) :
    PE ((gCx X Ng q sg g cd s H).tr pn xe) (.Call (.Name a p1) [] [] p2) (fun σZ HZ Q => σZ = σ0 ∧ σZ[i]? = some (some (.ref f)) ∧ HZ c' = some (CodeO c' (X.env.qual ++ "<lambda>")) ∧ tb σ HZ Q) := by
  refine ⟨fun pz sz σz hz Qz J ⟨eσ, h1, h2, h3⟩ => ?_⟩
  have nm := (pe_var (pos := p1) (i := i) hN hv d1 d2).run pz sz σz hz (fun v H1 => v = .ref f ∧ H1 = hz) J ⟨_, h1, rfl, rfl⟩
  refine wpAny_Call_Name_kw (thn nm ?_)
  rintro u s1 ⟨v, H1, J1, r1, ⟨ev, eh⟩⟩
  subst ev
  rw [eh] at J1
  obtain rfl : u = Value.ref f := r1
  have o1 : s1.heap.get? f = some (lamO X ps b sc pm c' ct) := J1.base.keep f _ hf hn hfr (fun y => List.not_mem_nil (show f ∈ ([] : List Addr) from y))
  have go : codeAny (model X.prog X.w) (X.A.deeper (envOfC q sg s.heap.objs.size g cd)) (.call (.ref f) ⟨[], []⟩) (CR (L2.CX X.prog X.w) (envOfC q sg s.heap.objs.size g cd :: X.stack) X.prog X.w hz s1 Qz E) s1 := by
    obtain ⟨⟨oc, vs, t, ho, hd, hc⟩, _, _⟩ := J1.hok c' _ h2
    refine PySem.W.kla_callFunE hr.depth o1 rfl L.co L.gen rfl ⟨c', oc, vs, t, rfl, ho, hd, hc⟩ ?_
    rw [hb]
    refine wpAny_pure (wpAny_newFunctionEnv (fun y hy => (L.own y hy).2) (fun y hy => absurd hy (by simp)) (fun h1' hns hsb => ⟨J1.nolimit.fresh _ hsb, ?_⟩) L.kind)
    show codeAny _ _ (.expr b (lamEnv X sc s1.heap.objs.size f c')) _ _
    have st : Inv (lamCx X (X.A.deeper (envOfC q sg s.heap.objs.size g cd)) (envOfC q sg s.heap.objs.size g cd :: X.stack) s1 hz E sc f c') [] σ hz { s1 with heap := h1', toks := s1.toks + ([] : List (Str × Value)).length } :=
      lam_start2 I L J1.env0 hr.hd J1.base hns (fun b' o' e' => hsb.extBut b' o' (Nat.ne_of_lt (Heap.lt_size e')) (Heap.get?_push_of_some _ e'))
    refine PySem.W.kla_codeExpr (wpAny_mono ((hbody _ _ s1 hz (hr.deeper _)).run [] _ _ hz Qz st h3) ?_ (fun _ _ x => x))
    rintro v' s' ⟨w', H', J', rv, qv⟩
    exact ⟨w', H', J'.os, J'.bare, J'.base, J'.hok, rv, qv⟩
  refine PySem.W.callWith_F0 ⟨_, _, _, _, o1⟩ (wpAny_call (codeAny_mono go ?_))
  intro r s' hq
  cases r with
  | error e =>
    refine tk e s' (XE.of_call J1 (fun cls d H' hE => ?_) hq)
    rw [eσ]
    exact hW cls d H' hE
  | ok fl =>
    cases fl with
    | ret u => exact J1.after hq
    | next => cases hq
    | brk => cases hq
    | cont => cases hq
/-- the def that asks: σ0 its slots where it asks -/
def AsksOf (X : Cx) (Ng : List Str) (x : Str) (sg : Scope) (g : Addr) (cd : Value) (bg : List Stmt) (a : Str) (q : Str) (TT : (XK → Hp → VK → Prop) → Hp → VK → Prop) : Prop :=
  ∀ (f c' : Addr) (s : Shared) (H : Hp) (Q : VK) (tl : XK → Hp → VK → Prop),
    (∀ (σ0 : L2.St) (W : WX) (pn : List (Addr × Obj)) (xe : Value → Shared → Prop) (E : XK) (p1 p2 : Pos), Takes ((gCx X Ng x sg g cd s H).tr pn xe) W → (∀ cls d H', E cls d H' → W cls d σ0 H') →
      PE ((gCx X Ng x sg g cd s H).tr pn xe) (.Call (.Name a p1) [] [] p2) (fun σZ HZ Q => σZ = σ0 ∧ σZ[0]? = some (some (.ref f)) ∧ HZ c' = some (CodeO c' q) ∧ tl E HZ Q)) →
    H c' = some (CodeO c' q) → TT tl H Q → ∃ t, PSs (gCx X Ng x sg g cd s H).nox bg t ∧ t { nx := fun _ H' => Q .non H', rt := Q } (L2.start Ng [.ref f]) H
theorem pe_askcall {X : Cx} {T : List (Addr × Str)} {TT : (XK → Hp → VK → Prop) → Hp → VK → Prop} {x a : Str} {g c P : Addr} {k : Nat} {pg : Arguments} {bg : List Stmt} {sg : Scope} {dV kV doc pm cdv ct oc : Value} {an od : Option Addr} {osl : Array (Option Value)} {Ng : List Str}
    {ps : Arguments} {b : Expr} {sc : Scope} {t : XK → TE} {p lp pos : Pos} (hg : Gl X x) (hm : X.mg x = some (.ref g)) (hk : PySem.W.keepIn X.K (.ref g) = true)
    (lk : X.K.lookup g = some ⟨oc, od, .func (PySem.W.fnOf x x pg bg sg dV kV doc pm an cdv ct), osl⟩) (hcg : PySem.W.codeIn X.K cdv x = true) (hbi : L2.Binds X.K (PySem.W.fnOf x x pg bg sg dV kV doc pm an cdv ct) [a] []) (Sg : FnScope Ng [a] sg) (hN : Ng[0]? = some a) (hv : Vis sg a)
    (hG : AsksOf X Ng x sg g cdv bg a (X.env.qual ++ "<lambda>") TT) (TB : TabB X.base X.mg c P) (hcode : X.env.code = .ref c) (hT : (P, X.env.qual ++ "<lambda>") ∈ T) (hu : ∀ p ∈ T, p.1 = P → p.2 = X.env.qual ++ "<lambda>") (hr : Room (k + 2) X.A) (L : LamS X.env.scope sc) (hdef : defaultsOf ps X.env = ([], []))
    (hb : ∀ (q : Str) (cl : List (Str × Addr)) (pm cv ctv : Value), bindArgs (PySem.W.kla_fn "<lambda>" q ps b sc cl pm cv ctv) ⟨[], []⟩ = pure [])
    (hbody : ∀ (A : Around) (o : List Env) (s : Shared) (H : Hp) (E : XK) (f c' : Addr), Room k (A.deeper (lamEnv X sc s.heap.objs.size f c')) → PE (lamCx X A o s H E sc f c') b (t E))
    (d0 : (x == ("__debug__" : Str)) = false := by decide) (d1 : (a == ("__debug__" : Str)) = false := by decide) (d2 : (a == ("__classdict__" : Str)) = false := by decide) :
    PE X (.Call (.Name x p) [.Lambda ps b sc lp] [] pos) (tLam T TT t) := by
  refine ⟨fun pins s σ H Q I ⟨hTt, h⟩ => wpAny_Call_Name_kw (ld_glob I hg hm (PySem.W.callWith_K (h₀ := X.base) I.ok.mod.kin hk ?_ (by rfl) (by rfl)) d0)⟩
  show wpAny _ _ (spliced ((false, eval (.Lambda ps b sc lp) X.env) :: backTo pos (starEach [] X.env))) _ _ s
  refine Calls.spliced_cons (lam_make2 I TB hcode hT hu hTt hdef (L.has I.ok) fun f c' pm' ctv H1 s' J eN T1 hf hfn hfr hco => Calls.spliced_nil ⟨J.kIn, ?_⟩)
  refine wpAny_call (codeAny_mono (R := CR C8.CX0 X.stack X.prog X.w H1 s' Q C8.E0) (run_ofS (N := Ng) (ps := [a]) (us := [.ref f]) (vs := [.ref f]) lk hcg Sg hr J.env0 (hbi s' [.ref f] J.kIn rfl) (.cons rfl .nil) rfl fun hr' => ?_) fun r s2 hq => ?_)
  · obtain ⟨t', ht, hq⟩ := hG f c' s' H1 Q (fun E H' Q' => t E σ H' Q') (fun σ0 W pn xe E p1 p2 tk hW => act_at (i := 0) J L hf hfn hfr (hb _ _ _ _ _) tk hW hr' (fun A o s H hr2 => hbody A o s H E f c' hr2) hN hv d1 d2) hco (h H1 eN T1)
    exact ⟨t', ht.nox, hq⟩
  · cases r with
    | error e => exact (show False from hq).elim
    | ok fl =>
      cases fl with
      | ret u => exact J.after hq
      | next => cases hq
      | brk => cases hq
      | cont => cases hq
end HL

/-! own exceptions over any built-in base, their __init__ walked as a def; made with any count of arguments -/
namespace HL
open PySem PySem.Spec PyProof.Rows L2
open PySem.Builtin PySem.Builtin.ObjectAttr PySem.HandSPX
section
variable {prog : Program} {w : World} {A : Around} {R : Result → Shared → Prop} {hp : Heap} {g : Array GenState} {d : Drawn} {t : Nat} {os : OsState} {K : PySem.W.Frag} {f : Str} {tk : Tok} {v : Value} {x C : Addr} {fv : Array Value} {cd : ClassData}
/-- what a store on an instance looks up, told of its class alone -/
structure Mro (cd : ClassData) : Prop where
  pass : ∀ self, refuseLoop self "__setattr__" cd.mro = pure ()
  obj : cd.mro.contains (.type "object") = true
  ne : cd.mro.isEmpty = false
  hd : cd.hasDict = true
theorem osaG {o : Obj} {od : Option Obj} (X : K.In hp) (I : PySem.W.InstAt hp x o C od) (hcd : PySem.W.clsIn K C = some cd) (M : Mro cd) (ha : PySem.W.findIn K (.ref C) f = some none)
    (hq : wpAny (model prog w) A.in1 (storeInOwnDict (.ref x) (.ref C) (.str f tk) f v false) (fun r s' => match r with | .done fl => R (.ok fl) s' | .again c' => c'.quiet = true ∧ codeAny (model prog w) A c' R s') (fun e s' => R (.error e) s') ⟨hp, g, d, t, os⟩) :
    codeAny (model prog w) A (.call (.builtin "object.__setattr__") ⟨[.ref x, .str f tk, v], []⟩) R ⟨hp, g, d, t, os⟩ := by
  have SF := F.store_object
  have sub : PySem.W.Looks (model prog w) hp (isInstance (.ref x) (.type "object")) true := I.type.andThen (PySem.W.looks_mroIn X (by unfold PySem.W.mroIn; rw [hcd, Option.bind_some, if_neg (by rw [M.ne]; decide), M.obj]))
  refine codeAny_call_builtin SF.slot.plain SF.entry (@PySem.W.check_slot (model prog w) _ _ ⟨hp, g, d, t, os⟩ "object.__setattr__" "object" "__setattr__" (.ref x) [.str f tk, v] [] _ SF.kind SF.split sub (SF.args (.ref x) (.str f tk) v) ?_)
  have hmr : PySem.W.Looks (model prog w) hp (mroOf (.ref C)) cd.mro := (PySem.W.looks_clsIn X hcd).andThen .now
  have L3 : PySem.W.Looks (model prog w) hp (storeTaker? none) none := .now
  rw [PySem.W.osa_eq, refuse_eq]
  refine wpAny_bind (wpAny_bind (I.type.at (wpAny_bind (hmr.at ?_))))
  rw [M.pass]
  refine wpAny_pure (wpAny_bind (I.type.at (wpAny_bind ((PySem.W.looks_findIn X ha).at (wpAny_bind (L3.at ?_))))))
  exact hq
/-- the first field of an instance -/
theorem store1 (X : K.In hp) (hx : hp.get? x = some { cls := .ref C, data := .fields fv }) (hcd : PySem.W.clsIn K C = some cd) (M : Mro cd) (ha : PySem.W.findIn K (.ref C) f = some none)
    (hq : ∀ h' tk' dx, (∀ b o, b ≠ x → hp.get? b = some o → h'.get? b = some o) → hp.objs.size ≤ dx → dx ≠ x → h'.get? x = some { cls := .ref C, dict := some dx, data := .fields fv } → h'.Ns1 dx (fun y => if y = f then some v else none) → R (.ok (.ret .none)) ⟨h', g, d, tk', os⟩) :
    codeAny (model prog w) A (.call (.builtin "object.__setattr__") ⟨[.ref x, .str f tk, v], []⟩) R ⟨hp, g, d, t, os⟩ := by
  have hxs : x ≠ hp.objs.size := Nat.ne_of_lt (Heap.lt_size hx)
  refine osaG (od := none) X ⟨hx, rfl, rfl, trivial⟩ hcd M ha ?_
  have hc : PySem.W.Looks (model prog w) hp (classData C) cd := PySem.W.looks_clsIn X hcd
  obtain ⟨_, _, _, hdt⟩ := M
  obtain ⟨nm, bs, mro, ns, qn, hd, sn, sb, ab, col, del⟩ := cd
  cases hdt
  unfold storeInOwnDict ownDictForStores
  repeat (first | with_reducible refine store_in_new ?_ ?_ | with_reducible refine wpAny_loadPart_at hx ?_ | with_reducible refine hc.at ?_ | wp_step)
  · have nothing : ∀ e ∈ (#[] : Array DictEntry).toList, False := fun e he => by simp at he
    exact ⟨_, #[], _, (Heap.get?_update_ne _ _ _ _ hxs.symm).trans (Heap.get?_push_at rfl rfl),
      rfl, fun e he => absurd he (by simp), fun _ => rfl⟩
  · intro h' tk' hn' hs
    refine hq h' tk' hp.objs.size ?_ (Nat.le_refl _) hxs.symm ?_ hn'
    · intro b o hb ho
      rw [hs.2 b (Nat.ne_of_lt (Heap.lt_size ho)), Heap.get?_update_ne _ _ _ _ hb]
      exact Heap.get?_push_of_some _ ho
    · rw [hs.2 x hxs]
      exact Heap.get?_update_self _ (Heap.get?_push_of_some _ hx) rfl
/-- a further field -/
theorem store2 {dx : Addr} {m0 : Str → Option Value} {nl : List Str} (X : K.In hp) (hx : hp.get? x = some { cls := .ref C, dict := some dx, data := .fields fv }) (hns : hp.Ns1 dx m0) (hw : Within m0 nl) (hz : nl.length ≤ 1000) (hcd : PySem.W.clsIn K C = some cd) (M : Mro cd) (ha : PySem.W.findIn K (.ref C) f = some none)
    (hq : ∀ h' tk', (∀ b o, b ≠ dx → hp.get? b = some o → h'.get? b = some o) → h'.Ns1 dx (fun y => if y = f then some v else m0 y) → R (.ok (.ret .none)) ⟨h', g, d, tk', os⟩) :
    codeAny (model prog w) A (.call (.builtin "object.__setattr__") ⟨[.ref x, .str f tk, v], []⟩) R ⟨hp, g, d, t, os⟩ := by
  obtain ⟨oD, _, _, hoD, _, _⟩ := hns.count hw
  refine osaG (od := some oD) X ⟨hx, rfl, rfl, hoD⟩ hcd M ha ?_
  have hc : PySem.W.Looks (model prog w) hp (classData C) cd := PySem.W.looks_clsIn X hcd
  obtain ⟨_, _, _, hdt⟩ := M
  obtain ⟨nm, bs, mro, ns, qn, hd, sn, sb, ab, col, del⟩ := cd
  cases hdt
  unfold storeInOwnDict ownDictForStores
  repeat (first | with_reducible refine PySem.OEX.store_in_old hns hw hz ?_ | with_reducible refine wpAny_loadPart_at hx ?_ | with_reducible refine hc.at ?_ | wp_step)
  exact fun h' tk' hn' hs => hq h' tk' (fun b o hb ho => by rw [hs.2 b hb]; exact ho) hn'
end
/-- what the written part says of an own class over a built-in base -/
structure OexB (K : PySem.W.Frag) (C : Addr) (nid : String) (bmB : List Value) : Prop where
  cls : ∃ nm q N bs bm sn sub ab col dd k0 k1 k2 k3 k5, K.lookup C = some (excClassObj nm q C N bs bm true sn sub ab col dd k0 k1 k2 k3 k5 nid) ∧ (∀ X : String, bm.contains (.type X) = bmB.contains (.type X)) ∧ ∀ self, refuseLoop self "__setattr__" (.ref C :: bm) = pure ()
  ob : bmB.contains (.type "object") = true
  sa : PySem.W.findIn K (.ref C) "__setattr__" = some (some (.builtin "object.__setattr__"))
  exC : PySem.W.subIn K (.ref C) (.type "BaseException") = some true
  tyC : PySem.W.typeIn K (.ref C) = some (.type "type")
  kC : PySem.W.keepIn K (.ref C) = true
theorem OexB.mro {K : PySem.W.Frag} {C : Addr} {nid : String} {bmB : List Value} (T : OexB K C nid bmB) : ∃ cd, PySem.W.clsIn K C = some cd ∧ Mro cd := by
  obtain ⟨nm, q, N, bs, bm, sn, sub, ab, col, dd, k0, k1, k2, k3, k5, hC, h1, h2⟩ := T.cls
  refine ⟨{ name := nm, bases := bs, mro := .ref C :: bm, ns := N, qualname := q, hasDict := true, slotNames := sn, subclasses := sub, abstract := ab, collection := col, hasDel := false }, by unfold PySem.W.clsIn; rw [hC] <;> rfl, h2, ?_, rfl, rfl⟩
  show (Value.ref C :: bm).contains (.type "object") = true
  rw [List.contains_cons, h1, T.ob, Bool.or_true]
section
variable {X : Cx} {nid : String} {bmB : List Value} {pins : List (Addr × Obj)} {σ : L2.St} {H : Hp} {s : Shared} {a C dx : Addr} {f : Str} {y : V} {u : Value} {fs : List (Str × V)} {Q : Unit → Shared → Prop} {E : Value → Shared → Prop} {A : Around}
theorem ostN (T : OexB X.K C nid bmB) (I : Inv X pins σ H s) (e : H a = some (exo a C none)) (hno : PySem.W.findIn X.K (.ref C) f = some none) (ry : RelV y u)
    (h : ∀ dx s', H dx = none → dx ≠ a → Inv X pins σ (upd (upd H dx (exd dx [(f, y)])) a (exo a C (some dx))) s' → Q () s') : wpAny (model X.prog X.w) A (setAttr (.ref a) f u) Q E s := by
  obtain ⟨cd, hcl, M⟩ := T.mro
  obtain ⟨t1, ho⟩ := exo_at I.hok e
  obtain ⟨hp, g, d, t, os⟩ := s
  refine PySem.W.set_plain (od := none) I.kIn ⟨ho, rfl, rfl, trivial⟩ T.sa (store1 I.kIn ho hcl M hno fun h' tk' dx k dn dne hx hn => ?_)
  have nH : H dx = none := I.hok.fresh dn
  have old : ∀ {b : Addr} {o : Obj}, hp.get? b = some o → b ≠ dx := fun {b o} q => Nat.ne_of_lt (Nat.lt_of_lt_of_le (Heap.lt_size q) dn)
  have off : ∀ {b : Addr}, H b = none → b ≠ a := fun {b} n z => by rw [z, e] at n; cases n
  have two : ∀ {b : Addr} {o : HO}, H b = some o → exo a C none ≠ o → upd (upd H dx (exd dx [(f, y)])) a (exo a C (some dx)) b = some o := fun {b o} q ne => by
    rw [upd_ne (at_ne e q ne), upd_ne (ne_of_none q nH)]
    exact q
  refine h dx _ nH dne (I.un (t' := tk') { keep := fun b o q n _ _ => k b o (off n) q, slot := fun b o q n _ _ => ⟨o.slots, k b o (off n) q⟩, free := ?fr, there := ?th, tups := fun b xs q => two q exo_tup, frzs := fun b o v q => two q exo_frz, tbls := fun b ps q => ⟨#[], by rw [two q exo_tbl]; simp⟩ } fun b o q => ?ok)
  case fr =>
    intro b o q n _
    rw [upd_ne (off n), upd_ne (old q)]
    exact n
  case th =>
    intro b o q _
    by_cases hb : b = a
    · rw [hb]
      exact ⟨_, hx⟩
    · exact ⟨o, k b o hb q⟩
  case ok =>
    by_cases hb : b = a
    · subst hb
      rw [upd_same] at q
      cases q
      exact exo_ok hx
    rw [upd_ne hb] at q
    by_cases hd : b = dx
    · subst hd
      rw [upd_same] at q
      cases q
      exact exd_ok hn (relO_put (fs := []) ry fun g => True.intro)
    rw [upd_ne hd] at q
    refine (I.hok b o q).stay (fun c v hc z => k c v ?_ z) (fun c hc => two hc exo_own) (fun c xs hc => two hc exo_tup)
    rcases hc with hc | hc
    · rw [hc]; exact hb
    · exact at_ne e hc exo_own
theorem ostO (T : OexB X.K C nid bmB) (I : Inv X pins σ H s) (e : H a = some (exo a C (some dx))) (ed : H dx = some (exd dx fs)) (hl : fs.length ≤ 900) (hno : PySem.W.findIn X.K (.ref C) f = some none) (ry : RelV y u)
    (h : ∀ s', Inv X pins σ (upd H dx (exd dx ((f, y) :: fs))) s' → Q () s') : wpAny (model X.prog X.w) A (setAttr (.ref a) f u) Q E s := by
  obtain ⟨cd, hcl, M⟩ := T.mro
  obtain ⟨t1, ho⟩ := exo_at I.hok e
  obtain ⟨mA, hns, rel⟩ := exd_at I.hok ed
  have hw := within_of rel
  obtain ⟨hp, g, d, t, os⟩ := s
  obtain ⟨oD, _, _, hoD, _, _⟩ := hns.count hw
  refine PySem.W.set_plain (od := some oD) I.kIn ⟨ho, rfl, rfl, hoD⟩ T.sa (store2 I.kIn ho hns hw (by rw [List.length_map]; omega) hcl M hno fun h' tk' k hn => ?_)
  have hd : ∃ o, h'.get? dx = some o := let ⟨o, _, _, e', _⟩ := hn; ⟨o, e'⟩
  exact h _ (I.write (t' := tk') (x := dx) (e := dx) (o := exd dx ((f, y) :: fs)) (by rw [ed]; exact True.intro) (.inl rfl) k hd (exd_ok hn (relO_put ry rel)))
end
/-! ### readings and rules -/
/-- self.f = e -/
def tOstB (K : PySem.W.Frag) (nid : String) (bmB : List Value) (f : Str) (to te : TE) : TS := fun D σ H => te σ H fun y H1 => to σ H1 fun x H2 => ∃ a C : Addr, x = .ref a ∧ OexB K C nid bmB ∧ PySem.W.findIn K (.ref C) f = some none ∧
  ((H2 a = some (exo a C none) ∧ ∀ dx, H2 dx = none → dx ≠ a → D.nx σ (upd (upd H2 dx (exd dx [(f, y)])) a (exo a C (some dx)))) ∨
    ∃ (dx : Addr) (fs : List (Str × V)), H2 a = some (exo a C (some dx)) ∧ H2 dx = some (exd dx fs) ∧ fs.length ≤ 900 ∧ D.nx σ (upd H2 dx (exd dx ((f, y) :: fs))))
section
variable {X : Cx} {nid : String} {bmB : List Value} {o e : Expr} {es : List Expr} {to te : TE} {ta : TA} {f : Str} {p p' pos : Pos}
theorem ps_ostB (ho : PE X o to) (he : PE X e te) (hs : swapsWith e (some (.Attribute o f p')) pos.line X.env = pure false := by rfl) : PS X (.Assign [.Attribute o f p'] e pos) (tOstB X.K nid bmB f to te) := by
  refine ⟨fun pins s σ H D I h => plainObj_wpAny_Assign_Attribute (thn (he.run pins s σ H _ I h) fun v s1 ⟨y, H1, I1, r1, q1⟩ => thn (ho.run pins s1 σ H1 _ I1 q1) ?_) hs⟩
  rintro u s2 ⟨x, H2, I2, r2, a, C, ex, T, hno, q⟩
  subst ex
  obtain rfl : u = Value.ref a := r2
  rcases q with ⟨ea, q⟩ | ⟨dx, fs, ea, ed, hl, q⟩
  · exact ostN T I2 ea hno r1 fun dx s' n ne J => ⟨σ, _, J, q dx n ne⟩
  · exact ostO T I2 ea ed hl hno r1 fun s' J => ⟨σ, _, J, q⟩
/-- the making, the arguments at hand -/
theorem make_at {CX : CXT} {B initId : String} {C fI : Addr} {k : Nat} {fd : FuncData} {ps : List Str} {sp : Sp} (EF : ExcBaseFacts B nid initId bmB) (T : OexB X.K C nid bmB) (iC : PySem.W.findIn X.K (.ref C) "__init__" = some (some (.ref fI))) (tI : PySem.W.typeIn X.K (.ref fI) = some (.type "function"))
    (F1 : FnOk X.prog X.w X.K X.mg X.base CX k fI fd ps sp) (hr : Room (k + 1) X.A) (hb : Binds X.K fd ps []) (hx : Passes CX X (fun _ _ _ => False)) {pins : List (Addr × Obj)} {σ : L2.St} {H1 : Hp} {s1 : Shared} {vs : List V} {us : List Value} {Q : XK} (I1 : Inv X pins σ H1 s1) (r1 : Vals vs us) (hz : vs.length ≤ 1000)
    (q1 : ∀ a, H1 a = none → sp (.ref a :: vs) (upd H1 a (exo a C none)) (fun v H2 => v = .non ∧ ∃ (d : Addr) (fs : List (Str × V)), H2 a = some (exo a C (some d)) ∧ H2 d = some (exd d fs) ∧ H1 d = none ∧ Q (.ref C) (some d) (upd (del H2 a) d (.xd fs))) (fun _ _ _ => False)) :
    wpAny (model X.prog X.w) X.A (call (.ref C) us) (MkP X pins σ Q) X.xe s1 := by
  obtain ⟨nm, q, N, bs, bm, sn, sub, ab, col, dd, k0, k1, k2, k3, k5, hC, h1, h2⟩ := T.cls
  obtain ⟨hp, g, dr, tk, os⟩ := s1
  have le : hp.objs.size ≤ hp.objs.size + 1 := Nat.le_succ _
  have hq := q1 (hp.objs.size + 1) (I1.hok.fresh le)
  have up : ∀ b o, hp.get? b = some o → ((hp.push (PySem.W.kdv_tup us)).push (excO C hp.objs.size)).get? b = some o := fun b o z => Heap.get?_push_of_some _ (Heap.get?_push_of_some _ z)
  have at1 : ((hp.push (PySem.W.kdv_tup us)).push (excO C hp.objs.size)).get? (hp.objs.size + 1) = some (excO C hp.objs.size) := by heap_get
  have I2 : Inv X pins σ (upd H1 (hp.objs.size + 1) (exo (hp.objs.size + 1) C none)) ⟨(hp.push (PySem.W.kdv_tup us)).push (excO C hp.objs.size), g, dr, tk, os⟩ := I1.laid (t' := tk) up le (exo_ok at1)
  have r2 : Vals (V.ref (hp.objs.size + 1) :: vs) (Value.ref (hp.objs.size + 1) :: us) := .cons rfl r1
  have len : (Value.ref (hp.objs.size + 1) :: us ++ []).length = ps.length := by
    rw [List.append_nil, ← r2.length]
    exact F1.len _ _ _ _ hq
  have bi := hb _ (Value.ref (hp.objs.size + 1) :: us) I2.kIn len
  rw [List.append_nil] at bi
  have small : us.length ≤ sizeLine := by
    rw [← Paired.length r1, sizeLine_eq]
    omega
  have run := F1.run _ X.stack _ _ ⟨Value.ref (hp.objs.size + 1) :: us, []⟩ (Value.ref (hp.objs.size + 1) :: us) _ _ (fun _ _ _ => False) (hr.make C us []) (I2.env0.make C us []) bi r2 hq
  refine wpAny_call (call_own EF h1 (I1.kIn _ _ hC) (PySem.W.looks_findIn I1.kIn iC) (fun self => PySem.W.bind_fn I1.kIn self tI) small (codeAny_mono run ?_))
  rintro (er | fl) s' hq'
  · exact hx pins σ _ _ er s' I2 hq'
  · cases fl with
    | ret u =>
      obtain ⟨v, H2, os2, bare2, un2, hok2, rv, ev, d, fs, ea, ed, hd1, q2⟩ := hq'
      subst ev
      exact ⟨rv, mk_end (raises_own T.exC T.tyC) I1 le up un2 hok2 os2 bare2 ea ed hd1 q2⟩
    | next => cases hq'
    | brk => cases hq'
    | cont => cases hq'
def tMkB (C : Addr) (sp : Sp) (ta : TA) : L2.St → Hp → XK → Prop := fun σ H Q => ta σ H fun vs H1 => vs.length ≤ 1000 ∧ ∀ a, H1 a = none → sp (.ref a :: vs) (upd H1 a (exo a C none))
  (fun v H2 => v = .non ∧ ∃ (d : Addr) (fs : List (Str × V)), H2 a = some (exo a C (some d)) ∧ H2 d = some (exd d fs) ∧ H1 d = none ∧ Q (.ref C) (some d) (upd (del H2 a) d (.xd fs))) (fun _ _ _ => False)
theorem pmk_oexB {CX : CXT} {B initId : String} {x : Str} {C fI : Addr} {k : Nat} {fd : FuncData} {ps : List Str} {sp : Sp} (EF : ExcBaseFacts B nid initId bmB) (T : OexB X.K C nid bmB) (iC : PySem.W.findIn X.K (.ref C) "__init__" = some (some (.ref fI))) (tI : PySem.W.typeIn X.K (.ref fI) = some (.type "function"))
    (F1 : FnOk X.prog X.w X.K X.mg X.base CX k fI fd ps sp) (hr : Room (k + 1) X.A) (hb : Binds X.K fd ps []) (hx : Passes CX X (fun _ _ _ => False)) (hg : Gl X x) (hm : X.mg x = some (.ref C)) (ha : PA X (e :: es) ta)
    (hdb : (x == ("__debug__" : Str)) = false := by decide) (he : starEach (e :: es) X.env = (false, eval e X.env) :: starEach es X.env := by rfl) (hpl : (backTo pos (starEach es X.env)).any (·.1) = false := by rfl) :
    PMk X (.Call (.Name x p) (e :: es) [] pos) (tMkB C sp ta) := fun pins s σ H Q I h =>
  wpAny_Call_Name_kw (ld_glob I hg hm (PySem.W.callWith_K (h₀ := X.base) I.ok.mod.kin T.kC (thn (ha.run pos pins s σ H _ I h) fun us s1 ⟨vs, H1, I1, r1, hz, q1⟩ => ⟨I1.kIn, make_at EF T iC tI F1 hr hb hx I1 r1 hz q1⟩) he hpl) hdb)
theorem pmk_oexB0 {CX : CXT} {B initId : String} {x : Str} {C fI : Addr} {k : Nat} {fd : FuncData} {ps : List Str} {sp : Sp} (EF : ExcBaseFacts B nid initId bmB) (T : OexB X.K C nid bmB) (iC : PySem.W.findIn X.K (.ref C) "__init__" = some (some (.ref fI))) (tI : PySem.W.typeIn X.K (.ref fI) = some (.type "function"))
    (F1 : FnOk X.prog X.w X.K X.mg X.base CX k fI fd ps sp) (hr : Room (k + 1) X.A) (hb : Binds X.K fd ps []) (hx : Passes CX X (fun _ _ _ => False)) (hg : Gl X x) (hm : X.mg x = some (.ref C)) (hdb : (x == ("__debug__" : Str)) = false := by decide) :
    PMk X (.Call (.Name x p) [] [] pos) (tMkB C sp tNil) := fun pins s σ H Q I h =>
  wpAny_Call_Name_kw (ld_glob I hg hm (PySem.W.callWith_K0 I.kIn T.kC (make_at EF T iC tI F1 hr hb hx I .nil (Nat.zero_le _) h.2)) hdb)
end
end HL

namespace HL
open PySem PySem.Spec PyProof.Rows L2
open C8 (pss_cut)
/-! ### the text -/
def topS (i : Nat) : Stmt := PySem.Challenge.pw_hamperlot_k04_goods_seen_and_lots_beside.main.body.getD i (.Pass ⟨0, 0, 0, 0⟩)
abbrev sIsHold : Stmt := topS 9
abbrev sLook : Stmt := topS 10
abbrev sGoods : Stmt := topS 11
abbrev sSeen : Stmt := topS 12
abbrev sBeside : Stmt := topS 13
abbrev sFeed : Stmt := topS 15
abbrev sDraw : Stmt := topS 16
abbrev sPick : Stmt := topS 17
abbrev sShuf : Stmt := topS 18
abbrev sSame : Stmt := topS 19
abbrev sHold : Stmt := topS 20
abbrev sLot : Stmt := topS 21
abbrev sAny : Stmt := topS 22
abbrev sNoughts : Stmt := topS 23
abbrev sBesL : Stmt := topS 24
abbrev sFlawL : Stmt := topS 25
abbrev sTold : Stmt := topS 26
abbrev sLaw : Stmt := topS 27
/-! ### heaps -/
/-- all that stood but at f stands -/
def Kp (f : Addr) (H H' : Hp) : Prop := ∀ b o, b ≠ f → H b = some o → H' b = some o
theorem Kp.refl (f : Addr) (H : Hp) : Kp f H H := fun _ _ _ h => h
theorem Kp.trans {f : Addr} {H H1 H2 : Hp} (a : Kp f H H1) (b : Kp f H1 H2) : Kp f H H2 := fun c o n h => b c o n (a c o n h)
theorem Same.kp {f : Addr} {H H' : Hp} (a : Same H H') : Kp f H H' := fun b o _ h => a b o h
theorem Kp.put {f : Addr} {H : Hp} {o : HO} : Kp f H (upd H f o) := fun b _ n h => by
  rw [upd_ne n]
  exact h
theorem same_new {H : Hp} {p : Addr} {o : HO} (h : H p = none) : Same H (upd H p o) := fun b x e => by
  rw [upd_ne (ne_of_none e h)]
  exact e
theorem Kp.new {f : Addr} {H : Hp} {p : Addr} {o : HO} (h : H p = none) : Kp f H (upd H p o) := Same.kp (same_new h)
/-- the feed at f -/
def FeedAt (c : Addr) (H : Hp) (f : Addr) : Prop := ∃ (ns : List Int) (i b m n : Int),
  H f = some (.lst [.ref c, .int i, .int b, .int m, .int n]) ∧ H c = some (.lst (ns.map V.int)) ∧ 0 ≤ i ∧ 0 ≤ b ∧ 0 ≤ m ∧ m < 2147483647
theorem FeedAt.same {c : Addr} {H H' : Hp} {f : Addr} (F : FeedAt c H f) (s : Same H H') : FeedAt c H' f := by
  obtain ⟨ns, i, b, m, n, h1, h2, h3⟩ := F
  exact ⟨ns, i, b, m, n, s _ _ h1, s _ _ h2, h3⟩
theorem FeedAt.new {c : Addr} {H : Hp} {f p : Addr} {o : HO} (F : FeedAt c H f) (h : H p = none) : FeedAt c (upd H p o) f := F.same (same_new h)
theorem FeedAt.ne {c : Addr} {H : Hp} {f p : Addr} (F : FeedAt c H f) (h : H p = none) : p ≠ f := by
  obtain ⟨ns, i, b, m, n, h1, _⟩ := F
  exact fun e => by
    rw [e, h1] at h
    cases h
theorem FeedAt.neC {c : Addr} {H : Hp} {f p : Addr} (F : FeedAt c H f) (h : H p = none) : p ≠ c := by
  obtain ⟨ns, i, b, m, n, _, h1, _⟩ := F
  exact fun e => by
    rw [e, h1] at h
    cases h
theorem FeedAt.tup {c : Addr} {H : Hp} {f p : Addr} {xs : List V} (F : FeedAt c H f) (h : H p = some (.tup xs)) : p ≠ f := by
  obtain ⟨ns, i, b, m, n, h1, _⟩ := F
  exact ne_of h h1 (fun e => by cases e)
/-- another thing than the feed is written -/
theorem FeedAt.put {c : Addr} {H : Hp} {f D : Addr} {o : HO} (F : FeedAt c H f) (n1 : D ≠ f) (n2 : D ≠ c) : FeedAt c (upd H D o) f := by
  obtain ⟨ns, i, b, m, n, h1, h2, h3⟩ := F
  exact ⟨ns, i, b, m, n, by rw [upd_ne (Ne.symm n1)]; exact h1, by rw [upd_ne (Ne.symm n2)]; exact h2, h3⟩
/-- where nothing stood behind, nothing stood ahead -/
theorem Kp.free {f : Addr} {H H' : Hp} {p : Addr} (k : Kp f H H') (n : p ≠ f) (h : H' p = none) : H p = none := by
  cases e : H p with
  | none => rfl
  | some o =>
    rw [k _ _ n e] at h
    cases h
/-- what is new since H may be written -/
theorem Kp.late {f : Addr} {H H' : Hp} {D : Addr} {o : HO} (k : Kp f H H') (nD : H D = none) : Kp f H (upd H' D o) := fun b x n e => by
  rw [upd_ne (ne_of_none e nD)]
  exact k _ _ n e
theorem same_late {H H' : Hp} {D : Addr} {o : HO} (k : Same H H') (nD : H D = none) : Same H (upd H' D o) := fun b x e => by
  rw [upd_ne (ne_of_none e nD)]
  exact k _ _ e
theorem ref_ne {c : Addr} {ns : List Int} {r : List V} : (V.ref c :: r) ≠ ns.map V.int := by
  cases ns with
  | nil => exact fun e => by cases e
  | cons x xs => exact fun e => by simp at e
/-! ### the feed -/
theorem scFeed : FnScope ["_law_script"] ["_law_script"] (defScope sFeed) := ⟨rfl, rfl, rfl, by decide +kernel, rfl, by decide +kernel, by decide +kernel⟩
theorem scDraw : FnScope ["_law_feed_here", "_law_many", "_law_cell", "_law_digit", "_law_mix"] ["_law_feed_here", "_law_many"] (defScope sDraw) := ⟨rfl, rfl, rfl, by decide +kernel, rfl, by decide +kernel, by decide +kernel⟩
theorem scPick : FnScope ["_law_feed_here", "_law_row"] ["_law_feed_here", "_law_row"] (defScope sPick) := ⟨rfl, rfl, rfl, by decide +kernel, rfl, by decide +kernel, by decide +kernel⟩
section
variable {P : Program} {w : World} {K : PySem.W.Frag} {mg : Str → Option Value} {base : Heap}
def spFeed (K : PySem.W.Frag) : Sp := fun vs H Q _ => ∃ (a : Addr) (ns : List Int), vs = [.ref a] ∧ SqL K H a (ns.map V.int) ∧ ns.length ≤ 63 ∧
  ∀ H' f c, Same H H' → H f = none → FeedAt c H' f → Q (.ref f) H'
theorem cut_ints (ns : List Int) (lo hi : Option Int) : ∃ ms : List Int, cutV (ns.map V.int) lo hi = ms.map V.int := by
  refine ⟨(ns.drop (HT.sIx ns.length 0 lo)).take (HT.sIx ns.length ns.length hi - HT.sIx ns.length 0 lo), ?_⟩
  unfold cutV
  rw [List.length_map, List.map_take, List.map_drop]
theorem ok_feed {f : Addr} {fd : FuncData} {k : Nat} (F : Fun K "_law_feed" "_law_feed" sFeed f fd) (ml : mg "list" = none) : FnOk P w K mg base CX0 (k + 1) f fd ["_law_script"] (spFeed K) := by
  refine F.ok scFeed (fun vs H Q E h => ?_) (fun cdv A outer s H vs Q E hr h => ?_)
  · obtain ⟨a, ns, rfl, _⟩ := h
    rfl
  · obtain ⟨a, ns, rfl, hS, hlen, q⟩ := h
    refine ⟨_, pss_one (ps_ret (pe_lst (pa_cons (pe_callTy call_list_of (by rfl) ml (by decide +kernel) (pa_cons (pe_slice sl_list (pv 0) po_none (po_some pe_int)) pa_nil)) (pa_cons pe_int (pa_cons pe_int (pa_cons pe_int (pa_cons pe_int pa_nil))))))), ?_⟩
    obtain ⟨ms, hms⟩ := cut_ints ns none (some 63)
    refine ⟨.ref a, rfl, 63, rfl, a, ns.map V.int, rfl, hS, fun c nc => ?_⟩
    rw [hms]
    refine ⟨c, ms.map V.int, rfl, .inl (SqL.of upd_same), fun l nl => ?_⟩
    refine ⟨(by show 5 ≤ sizeLine; decide), fun g ng => ?_⟩
    refine q _ g l ?_ ?_ ⟨ms, 0, 0, 9132, 0, upd_same, ?_, by decide, by decide, by decide, by decide⟩
    · exact (same_new nc).trans ((same_new nl).trans (same_new ng))
    · exact (same_new nc).free ((same_new nl).free ng)
    · rw [upd_ne (fun e => by rw [← e, upd_same] at ng; cases ng), upd_same]

theorem atI_int {ns : List Int} {i : Int} (h0 : 0 ≤ i) (h1 : i < (ns.length : Nat)) : ∃ z, atI (ns.map V.int) i = some (.int z) := by
  have hl : i.toNat < ns.length := by omega
  refine ⟨ns[i.toNat], ?_⟩
  have e : ((i.toNat : Nat) : Int) = i := by omega
  refine (congrArg (atI (ns.map V.int)) e.symm).trans (atI_nat (j := i.toNat) ?_)
  rw [List.getElem?_map, List.getElem?_eq_getElem hl]
  rfl
def spDraw : Sp := fun vs H Q _ => ∃ (f c : Addr) (n : Int), vs = [.ref f, .int n] ∧ 1 ≤ n ∧ n ≤ 1000000000000000000000000000000 ∧ FeedAt c H f ∧
  ∀ d H', 0 ≤ d → d < n → Kp f H H' → FeedAt c H' f → Q (.int d) H'
theorem ok_draw {f : Addr} {fd : FuncData} {k : Nat} (F : Fun K "_law_draw" "_law_draw" sDraw f fd) (ml : mg "len" = none) : FnOk P w K mg base CX0 (k + 1) f fd ["_law_feed_here", "_law_many"] spDraw := by
  refine F.ok scDraw (fun vs H Q E h => ?_) (fun cdv A outer s H vs Q E hr h => ?_)
  · obtain ⟨a, c, n, rfl, _⟩ := h
    rfl
  · obtain ⟨a, c, n, rfl, n1, n2, ⟨ns, i, b, m, t, h1, h2, i0, b0, m0, m1⟩, q⟩ := h
    refine ⟨_, pss_cut (ps_if (PW.pt (pw_and (pt_cmpR op_lt (pe_ix ix_list (pv 0) pe_int (fun _ _ => rfl)) (pv 1) (nomark _))
          (pw_and1 (pt_cmpR op_lt (pe_ix ix_list (pv 0) pe_int (fun _ _ => rfl)) (pe_callB call_len_seq (by rfl) ml PySem.boot_len (pa_cons (pe_ix ix_list (pv 0) pe_int (fun _ _ => rfl)) pa_nil)) (nomark _)))))
        (pss_cons (ps_set (i := 2) scDraw.nd rfl (.inl rfl) (pe_ix ix_list (pe_ix ix_list (pv 0) pe_int (fun _ _ => rfl)) (pe_ix ix_list (pv 0) pe_int (fun _ _ => rfl)) (fun _ _ => rfl)))
        (pss_cons (ps_asg (pe_op op_add (pe_ix ix_list (pv 0) pe_int (fun _ _ => rfl)) pe_int) (pg_sub (pv 0) pe_int set_list))
        (pss_cons (ps_asg pe_int (pg_sub (pv 0) pe_int set_list))
        (pss_one (ps_if (pt_cmpR op_ge (pv 2) (pe_op op_pow pe_int pe_int) (nomark _))
          (pss_one (ps_asg (pv 2) (pg_sub (pv 0) pe_int set_list)))
          (pss_one (ps_asg (pe_op op_mod (pe_op op_add (pe_op op_add (pe_op op_mul (pe_ix ix_list (pv 0) pe_int (fun _ _ => rfl)) pe_int) (pe_op op_mul (pe_op op_mod (pv 2) pe_int) pe_int)) pe_int) pe_int) (pg_sub (pv 0) pe_int set_list))))))))
        pss_nil)
      (pss_cons (ps_if (pt_cmpR op_ge (pe_ix ix_list (pv 0) pe_int (fun _ _ => rfl)) (pv 1) (nomark _))
        (pss_cons (ps_set (i := 3) scDraw.nd rfl (.inl rfl) (pe_op op_mod (pe_ix ix_list (pv 0) pe_int (fun _ _ => rfl)) (pv 1)))
        (pss_cons (ps_asg (pe_op op_fdivW (pe_ix ix_list (pv 0) pe_int (fun _ _ => rfl)) (pv 1)) (pg_sub (pv 0) pe_int set_list))
        (pss_one (ps_ret (pv 3))))) pss_nil)
      (pss_cons (ps_asg (pe_op op_add (pe_ix ix_list (pv 0) pe_int (fun _ _ => rfl)) pe_int) (pg_sub (pv 0) pe_int set_list))
      (pss_cons (ps_set (i := 4) scDraw.nd rfl (.inl rfl) (pe_ix ix_list (pv 0) pe_int (fun _ _ => rfl)))
      (pss_cons (ps_set (i := 4) scDraw.nd rfl (.inl rfl) (pe_op op_add (pe_op op_add (pe_op op_add (pe_op op_mul (pe_op op_mod (pe_op op_mul (pv 4) (pv 4)) pe_int) pe_int) (pe_op op_mul (pv 4) pe_int)) (pe_op op_mul pe_int (pe_ix ix_list (pv 0) pe_int (fun _ _ => rfl)))) pe_int))
      (pss_cons (ps_asg (pe_op op_mod (pv 4) pe_int) (pg_sub (pv 0) pe_int set_list))
      (pss_one (ps_ret (pe_op op_mod (pe_op op_add (pe_op op_fdiv (pe_ix ix_list (pv 0) pe_int (fun _ _ => rfl)) pe_int) (pe_op op_mul (pe_op op_mod (pe_ix ix_list (pv 0) pe_int (fun _ _ => rfl)) pe_int) pe_int)) (pv 1))))))))), ?_⟩
    have hca : c ≠ a := fun e => by
      rw [e, h1] at h2
      exact ref_ne (HO.lst.inj (Option.some.inj h2))
    refine ⟨fun σ' H' => ∃ (y2 : Option V) (i b m t : Int), σ' = [some (.ref a), some (.int n), y2, none, none] ∧ Kp a H H' ∧ H' a = some (.lst [.ref c, .int i, .int b, .int m, .int t]) ∧ 0 ≤ i ∧ 0 ≤ b ∧ 0 ≤ m ∧ m < 2147483647, ?_, ?_⟩
    · refine ⟨.ref a, rfl, a, _, 2, .int b, rfl, rfl, SqL.of h1, atI_nat (j := 2) rfl, .int n, rfl, b, n, rfl, rfl, _, rfl, ite2 (fun c1 => ?_) (fun c1 => ?_)⟩
      · refine ⟨.ref a, rfl, a, _, 1, .int i, rfl, rfl, SqL.of h1, atI_nat (j := 1) rfl, .ref a, rfl, a, _, 0, .ref c, rfl, rfl, SqL.of h1, atI_nat (j := 0) rfl, c, _, rfl, .inl (SqL.of h2), i, _, rfl, rfl, _, rfl, ite2 (fun c2 => ?_) (fun c2 => ?_)⟩
        · have hi : i < (ns.length : Nat) := by
            have := of_decide_eq_true c2
            rw [List.length_map] at this
            exact this
          obtain ⟨z, hz⟩ := atI_int i0 hi
          refine ⟨.ref a, rfl, a, _, 0, .ref c, rfl, rfl, SqL.of h1, atI_nat (j := 0) rfl, .ref a, rfl, a, _, 1, .int i, rfl, rfl, SqL.of h1, atI_nat (j := 1) rfl, c, _, i, .int z, rfl, rfl, SqL.of h2, hz, ?_⟩
          refine ⟨.ref a, rfl, a, _, 1, .int i, rfl, rfl, SqL.of h1, atI_nat (j := 1) rfl, i, 1, rfl, rfl, .ref a, rfl, a, _, 1, 1, rfl, rfl, h1, rfl, ?_⟩
          refine ⟨.ref a, rfl, a, _, 2, 2, rfl, rfl, upd_same, rfl, ?_⟩
          refine ⟨.int z, rfl, 10, 18, rfl, rfl, ⟨by decide, by decide, by decide⟩, z, _, rfl, rfl, _, rfl, ite2 (fun c3 => ?_) (fun c3 => ?_)⟩
          · have z0 : (10 : Int) ^ (18 : Int).toNat ≤ z := of_decide_eq_true c3
            have z1 : (0 : Int) ≤ z := Int.le_trans (by decide) z0
            refine ⟨.int z, rfl, .ref a, rfl, a, _, 2, 2, rfl, rfl, upd_same, rfl, ?_⟩
            exact ⟨_, i + 1, z, m, t, rfl, Kp.put.trans (Kp.put.trans Kp.put), upd_same, by omega, z1, m0, m1⟩
          · refine ⟨.ref a, rfl, a, _, 3, .int m, rfl, rfl, SqL.of upd_same, atI_nat (j := 3) rfl, m, 48271, rfl, rfl, .inr ⟨by decide, by decide⟩, .int z, rfl, z, 1000000007, rfl, rfl, (by show (0 : Int) < 1000000007; decide), _, 69621, rfl, rfl, .inr ⟨by decide, by decide⟩, _, _, rfl, rfl, _, 11, rfl, rfl, _, 2147483647, rfl, rfl, (by show (0 : Int) < 2147483647; decide), .ref a, rfl, a, _, 3, 3, rfl, rfl, upd_same, rfl, ?_⟩
            exact ⟨_, i + 1, 0, _, t, rfl, Kp.put.trans (Kp.put.trans Kp.put), upd_same, by omega, by decide, Int.emod_nonneg _ (by decide), Int.emod_lt_of_pos _ (by decide)⟩
        · exact ⟨none, i, b, m, t, rfl, Kp.refl _ _, h1, i0, b0, m0, m1⟩
      · exact ⟨none, i, b, m, t, rfl, Kp.refl _ _, h1, i0, b0, m0, m1⟩
    · rintro σ' H' ⟨y2, i, b, m, t, rfl, kp, g1, i0, b0, m0, m1⟩
      have g2 : H' c = some (.lst (ns.map V.int)) := kp _ _ hca h2
      refine ⟨.ref a, rfl, a, _, 2, .int b, rfl, rfl, SqL.of g1, atI_nat (j := 2) rfl, .int n, rfl, b, n, rfl, rfl, _, rfl, ite2 (fun c1 => ?_) (fun c1 => ?_)⟩
      · refine ⟨.ref a, rfl, a, _, 2, .int b, rfl, rfl, SqL.of g1, atI_nat (j := 2) rfl, .int n, rfl, b, n, rfl, rfl, (by show (0 : Int) < n; omega), ?_⟩
        refine ⟨.ref a, rfl, a, _, 2, .int b, rfl, rfl, SqL.of g1, atI_nat (j := 2) rfl, .int n, rfl, b, n, rfl, rfl, wide_div (b := 100) (by omega) (by omega) (by decide) (by decide), .ref a, rfl, a, _, 2, 2, rfl, rfl, g1, rfl, ?_⟩
        refine ⟨_, rfl, q _ _ (Int.emod_nonneg _ (by omega)) (Int.emod_lt_of_pos _ (by omega)) (kp.trans Kp.put) ⟨ns, i, _, m, t, upd_same, ?_, i0, Int.ediv_nonneg b0 (by omega), m0, m1⟩⟩
        rw [upd_ne hca]
        exact g2
      · refine ⟨.ref a, rfl, a, _, 4, .int t, rfl, rfl, SqL.of g1, atI_nat (j := 4) rfl, t, 1, rfl, rfl, .ref a, rfl, a, _, 4, 4, rfl, rfl, g1, rfl, ?_⟩
        refine ⟨.ref a, rfl, a, _, 3, .int m, rfl, rfl, SqL.of upd_same, atI_nat (j := 3) rfl, ?_⟩
        refine ⟨.int m, rfl, .int m, rfl, m, m, rfl, rfl, .inl ⟨by omega, by omega⟩, _, 2147483587, rfl, rfl, (by show (0 : Int) < 2147483587; decide), _, 16807, rfl, rfl, .inr ⟨by decide, by decide⟩, .int m, rfl, m, 48271, rfl, rfl, .inr ⟨by decide, by decide⟩, _, _, rfl, rfl, .ref a, rfl, a, _, 4, .int (t + 1), rfl, rfl, SqL.of upd_same, atI_nat (j := 4) rfl, 97, t + 1, rfl, rfl, .inl ⟨by decide, by decide⟩, _, _, rfl, rfl, _, 12345, rfl, rfl, ?_⟩
        refine ⟨_, rfl, _, 2147483647, rfl, rfl, (by show (0 : Int) < 2147483647; decide), .ref a, rfl, a, _, 3, 3, rfl, rfl, upd_same, rfl, ?_⟩
        refine ⟨.ref a, rfl, a, _, 3, _, rfl, rfl, SqL.of upd_same, atI_nat (j := 3) rfl, _, 64, rfl, rfl, ⟨by decide, by decide⟩, .ref a, rfl, a, _, 3, _, rfl, rfl, SqL.of upd_same, atI_nat (j := 3) rfl, _, 4093, rfl, rfl, (by show (0 : Int) < 4093; decide), _, 31, rfl, rfl, .inr ⟨by decide, by decide⟩, _, _, rfl, rfl, .int n, rfl, _, n, rfl, rfl, (by show (0 : Int) < n; omega), ?_⟩
        refine q _ _ (Int.emod_nonneg _ (by omega)) (Int.emod_lt_of_pos _ (by omega)) (kp.trans (Kp.put.trans Kp.put)) ⟨ns, i, b, _, t + 1, upd_same, ?_, i0, b0, Int.emod_nonneg _ (by decide), Int.emod_lt_of_pos _ (by decide)⟩
        rw [upd_ne hca, upd_ne hca]
        exact g2
end
end HL

namespace HL
open PySem PySem.Spec PyProof.Rows L2
open C8 (pss_cut)
/-- a def of the module as its callers take it -/
structure Cal (P : Program) (w : World) (K : PySem.W.Frag) (mg : Str → Option Value) (base : Heap) (CX : CXT) (j : Nat) (x : Str) (ps : List Str) (sp : Sp) : Prop where
  ex : ∃ f fd, FnOk P w K mg base CX j f fd ps sp ∧ mg x = some (.ref f) ∧ PySem.W.keepIn K (.ref f) = true ∧ Binds K fd ps []
section
variable {P : Program} {w : World} {K : PySem.W.Frag} {mg : Str → Option Value} {base : Heap}
/-! ### pick -/
def spPick : Sp := fun vs H Q _ => ∃ (f c r : Addr) (xs : List V), vs = [.ref f, .ref r] ∧ H r = some (.lst xs) ∧ r ≠ f ∧ 1 ≤ xs.length ∧ xs.length ≤ 1000 ∧ FeedAt c H f ∧
  ∀ v H', v ∈ xs → Kp f H H' → FeedAt c H' f → Q v H'
theorem atI_mem {xs : List V} {i : Int} (h0 : 0 ≤ i) (h1 : i < (xs.length : Nat)) : ∃ z, atI xs i = some z ∧ z ∈ xs ∧ xs[i.toNat]? = some z := by
  have hl : i.toNat < xs.length := by omega
  have e : ((i.toNat : Nat) : Int) = i := by omega
  exact ⟨xs[i.toNat], (congrArg (atI xs) e.symm).trans (atI_nat (j := i.toNat) (List.getElem?_eq_getElem hl)), List.getElem_mem hl, List.getElem?_eq_getElem hl⟩
theorem ok_pick {f : Addr} {fd : FuncData} (F : Fun K "_law_pick" "_law_pick" sPick f fd) (ml : mg "len" = none) (CD : Cal P w K mg base CX0 1 "_law_draw" ["_law_feed_here", "_law_many"] spDraw) :
    FnOk P w K mg base CX0 2 f fd ["_law_feed_here", "_law_row"] spPick := by
  obtain ⟨fD, fdD, GD, gD, kD, bD⟩ := CD.ex
  refine F.ok scPick (fun vs H Q E h => ?_) (fun cdv A outer s H vs Q E hr h => ?_)
  · obtain ⟨a, c, r, xs, rfl, _⟩ := h
    rfl
  · obtain ⟨a, c, r, xs, rfl, hx, hne, l1, l2, Fd, q⟩ := h
    refine ⟨_, pss_one (ps_ret (pe_ix ix_list (pv 1) (pe_call GD hr (by rfl) gD kD bD .nil pass0 (pa_cons (pv 0) (pa_cons (pe_callB call_len_seq (by rfl) ml PySem.boot_len (pa_cons (pv 1) pa_nil)) pa_nil))) (fun _ _ => rfl))), ?_⟩
    refine ⟨.ref r, rfl, .ref a, rfl, .ref r, rfl, r, xs, rfl, .inl (SqL.of hx), a, c, (xs.length : Nat), rfl, by omega, by omega, Fd, fun d H' d0 d1 kp F' => ?_⟩
    obtain ⟨z, hz, hm, _⟩ := atI_mem d0 d1
    exact ⟨r, xs, d, z, rfl, rfl, SqL.of (kp _ _ hne hx), hz, q z H' hm kp F'⟩
/-! ### same -/
def leafV : V → Bool
  | .non => true
  | .bl _ => true
  | .int _ => true
  | .str _ => true
  | _ => false
/-- alike at depth d: leaves, or lists or tuples of such -/
def Eqd (H : Hp) : Nat → V → V → Prop
  | 0, x, y => x = y ∧ leafV x = true
  | d + 1, x, y => (x = y ∧ leafV x = true) ∨ ∃ (a b : Addr) (xs ys : List V), x = .ref a ∧ y = .ref b ∧ ((H a = some (.lst xs) ∧ H b = some (.lst ys)) ∨ (H a = some (.tup xs) ∧ H b = some (.tup ys))) ∧
      xs.length = ys.length ∧ xs.length ≤ 1000 ∧ ∀ (i : Nat) (x y : V), xs[i]? = some x → ys[i]? = some y → Eqd H d x y
theorem Eqd.same {H H' : Hp} (s : Same H H') : ∀ {d : Nat} {x y : V}, Eqd H d x y → Eqd H' d x y
  | 0, _, _, h => h
  | d + 1, _, _, .inl h => .inl h
  | d + 1, _, _, .inr ⟨a, b, xs, ys, ex, ey, hs, hl, hz, ih⟩ => .inr ⟨a, b, xs, ys, ex, ey, hs.imp (fun q => ⟨s _ _ q.1, s _ _ q.2⟩) (fun q => ⟨s _ _ q.1, s _ _ q.2⟩), hl, hz, fun i x y h1 h2 => Eqd.same s (ih i x y h1 h2)⟩
def spSame (d : Nat) : Sp := fun vs H Q _ => ∃ x y, vs = [x, y] ∧ Eqd H d x y ∧ ∀ H', Same H H' → Q (.bl true) H'
theorem scSame : FnScope ["_law_found", "_law_due", "_law_at"] ["_law_found", "_law_due"] (defScope sSame) := ⟨rfl, rfl, rfl, by decide +kernel, rfl, by decide +kernel, by decide +kernel⟩
structure Bl (mg : Str → Option Value) : Prop where
  len : mg "len" = none
  list : mg "list" = none
  tuple : mg "tuple" = none
  dict : mg "dict" = none
  str : mg "str" = none
  int : mg "int" = none
  bool : mg "bool" = none
  isinstance : mg "isinstance" = none
  all : mg "all" = none
  range : mg "range" = none
  sum : mg "sum" = none
  min : mg "min" = none
  max : mg "max" = none
  enumerate : mg "enumerate" = none
theorem ok_same_leaf {f : Addr} {fd : FuncData} {k : Nat} (F : Fun K "_law_same" "_law_same" sSame f fd) (B : Bl mg) : FnOk P w K mg base CX0 (k + 1) f fd ["_law_found", "_law_due"] (spSame 0) := by
  refine F.ok scSame (fun vs H Q E h => ?_) (fun cdv A outer s H vs Q E hr h => ?_)
  · obtain ⟨x, y, rfl, _⟩ := h
    rfl
  · obtain ⟨x, y, rfl, ⟨rfl, hlf⟩, q⟩ := h
    refine ⟨_, pss_cons (ps_if (pt_cmpR op_isN (pv 1) pe_non (nomark _)) (pss_one (ps_ret (pe_cmp (pc_isN (pv 0)) rfl))) pss_nil)
      (pss_cons (ps_if (pt_val (pe_callB call_isi (by rfl) B.isinstance (by decide +kernel) (pa_cons (pv 1) (pa_cons (pe_bltn (v := .ty "bool") (by rfl) B.bool (by decide +kernel) rfl) pa_nil))))
          (pss_one (ps_ret (pe_and (pe_callB call_isi (by rfl) B.isinstance (by decide +kernel) (pa_cons (pv 0) (pa_cons (pe_bltn (v := .ty "bool") (by rfl) B.bool (by decide +kernel) rfl) pa_nil))) (pe_one (pe_cmpR op_eq (pv 0) (pv 1) (nomark _)))))) pss_nil)
      (pss_cons (ps_if (pt_val (pe_callB call_isi (by rfl) B.isinstance (by decide +kernel) (pa_cons (pv 1) (pa_cons (pe_bltn (v := .ty "int") (by rfl) B.int (by decide +kernel) rfl) pa_nil))))
          (pss_one (ps_ret (pe_and (pe_callB call_isi (by rfl) B.isinstance (by decide +kernel) (pa_cons (pv 0) (pa_cons (pe_bltn (v := .ty "int") (by rfl) B.int (by decide +kernel) rfl) pa_nil)))
            (pe_and (pe_not (pe_callB call_isi (by rfl) B.isinstance (by decide +kernel) (pa_cons (pv 0) (pa_cons (pe_bltn (v := .ty "bool") (by rfl) B.bool (by decide +kernel) rfl) pa_nil)))) (pe_one (pe_cmpR op_eq (pv 0) (pv 1) (nomark _))))))) pss_nil)
      (pss_cons (ps_if (pt_val (pe_callB call_isi (by rfl) B.isinstance (by decide +kernel) (pa_cons (pv 1) (pa_cons (pe_bltn (v := .ty "str") (by rfl) B.str (by decide +kernel) rfl) pa_nil))))
          (pss_one (ps_ret (pe_and (pe_callB call_isi (by rfl) B.isinstance (by decide +kernel) (pa_cons (pv 0) (pa_cons (pe_bltn (v := .ty "str") (by rfl) B.str (by decide +kernel) rfl) pa_nil))) (pe_one (pe_cmpR op_eq (pv 0) (pv 1) (nomark _)))))) pss_nil)
      pss_never))), ?_⟩
    cases x with
    | non => exact ⟨_, rfl, rfl, _, rfl, iteT ⟨_, rfl, q _ (Same.refl _)⟩⟩
    | bl b =>
      refine ⟨_, rfl, rfl, _, rfl, iteF ?_⟩
      refine ⟨_, rfl, _, _, _, _, true, rfl, .ty "bool", .base (.bl b), kit_ty (by decide +kernel), _, rfl, iteT ?_⟩
      refine ⟨_, rfl, _, _, _, _, true, rfl, .ty "bool", .base (.bl b), kit_ty (by decide +kernel), _, rfl, iteT ?_⟩
      refine ⟨_, rfl, _, rfl, rfl, ?_⟩
      rw [decide_eq_true rfl]
      exact q _ (Same.refl _)
    | int i =>
      refine ⟨_, rfl, rfl, _, rfl, iteF ?_⟩
      refine ⟨_, rfl, _, _, _, _, false, rfl, .ty "bool", .base (.int i), kit_ty (by decide +kernel), _, rfl, iteF ?_⟩
      refine ⟨_, rfl, _, _, _, _, true, rfl, .ty "int", .base (.int i), kit_ty (by decide +kernel), _, rfl, iteT ?_⟩
      refine ⟨_, rfl, _, _, _, _, true, rfl, .ty "int", .base (.int i), kit_ty (by decide +kernel), _, rfl, iteT ?_⟩
      refine ⟨_, rfl, _, _, _, _, false, rfl, .ty "bool", .base (.int i), kit_ty (by decide +kernel), _, rfl, _, rfl, iteT ?_⟩
      refine ⟨_, rfl, _, rfl, rfl, ?_⟩
      rw [decide_eq_true rfl]
      exact q _ (Same.refl _)
    | str z =>
      refine ⟨_, rfl, rfl, _, rfl, iteF ?_⟩
      refine ⟨_, rfl, _, _, _, _, false, rfl, .ty "bool", .base (.str z), kit_ty (by decide +kernel), _, rfl, iteF ?_⟩
      refine ⟨_, rfl, _, _, _, _, false, rfl, .ty "int", .base (.str z), kit_ty (by decide +kernel), _, rfl, iteF ?_⟩
      refine ⟨_, rfl, _, _, _, _, true, rfl, .ty "str", .base (.str z), kit_ty (by decide +kernel), _, rfl, iteT ?_⟩
      refine ⟨_, rfl, _, _, _, _, true, rfl, .ty "str", .base (.str z), kit_ty (by decide +kernel), _, rfl, iteT ?_⟩
      refine ⟨_, rfl, _, rfl, rfl, ?_⟩
      rw [decide_eq_true rfl]
      exact q _ (Same.refl _)
    | byt b => cases hlf
    | flt b => cases hlf
    | ref a => cases hlf
    | ty n => cases hlf

theorem leaf_or {H : Hp} {d : Nat} {x y : V} (h : Eqd H d x y) (hx : leafV x = true) : x = y := by
  cases d with
  | zero => exact h.1
  | succ d =>
    rcases h with h | ⟨a, b, xs, ys, rfl, _⟩
    · exact h.1
    · cases hx
/-- what isinstance tells of a list or tuple that is tracked -/
theorem seq_ty {K : PySem.W.Frag} {H : Hp} {a b : Addr} {xs ys : List V} (h : (H a = some (.lst xs) ∧ H b = some (.lst ys)) ∨ (H a = some (.tup xs) ∧ H b = some (.tup ys))) :
    ∃ (T : String) (bt bl : Bool), TyX K H (.ref a) (.type T) ∧ TyX K H (.ref b) (.type T) ∧ kitB T "bool" = some false ∧ kitB T "int" = some false ∧ kitB T "str" = some false ∧ kitB T "dict" = some false ∧ kitB T "tuple" = some bt ∧ kitB T "list" = some bl := by
  rcases h with ⟨h1, h2⟩ | ⟨h1, h2⟩
  · exact ⟨"list", false, true, .base (.lst h1), .base (.lst h2), by decide +kernel, by decide +kernel, by decide +kernel, by decide +kernel, by decide +kernel, by decide +kernel⟩
  · exact ⟨"tuple", true, false, .base (.tup h1), .base (.tup h2), by decide +kernel, by decide +kernel, by decide +kernel, by decide +kernel, by decide +kernel, by decide +kernel⟩
theorem fnEither {CX : CXT} {k : Nat} {f : Addr} {fd : FuncData} {ps : List Str} {sp sp1 sp2 : Sp} (F1 : FnOk P w K mg base CX k f fd ps sp1) (F2 : FnOk P w K mg base CX k f fd ps sp2) (h : ∀ vs H Q E, sp vs H Q E → sp1 vs H Q E ∨ sp2 vs H Q E) : FnOk P w K mg base CX k f fd ps sp where
  len := fun vs H Q E q => (h vs H Q E q).elim (F1.len vs H Q E) (F2.len vs H Q E)
  run := fun A outer s H args us vs Q E hr e0 hb r q => (h vs H Q E q).elim (F1.run A outer s H args us vs Q E hr e0 hb r) (F2.run A outer s H args us vs Q E hr e0 hb r)
theorem yes {σ : L2.St} {H : Hp} {Q : Bool → Hp → Prop} (h : Q true H) : tYes σ H Q := h
theorem bl_self (b : Bool) : (!decide (V.bl b = V.bl b)) = false := by rw [decide_eq_true rfl]; rfl
theorem ok_same_step {f : Addr} {fd : FuncData} {d : Nat} (F : Fun K "_law_same" "_law_same" sSame f fd) (B : Bl mg) (gS : mg "_law_same" = some (.ref f)) (kS : PySem.W.keepIn K (.ref f) = true) (bS : Binds K fd ["_law_found", "_law_due"] [])
    (G : FnOk P w K mg base CX0 (d + 1) f fd ["_law_found", "_law_due"] (spSame d)) : FnOk P w K mg base CX0 (d + 2) f fd ["_law_found", "_law_due"] (spSame (d + 1)) := by
  have key : FnOk P w K mg base CX0 (d + 2) f fd ["_law_found", "_law_due"] (fun vs H Q _ => ∃ (a b : Addr) (xs ys : List V), vs = [.ref a, .ref b] ∧ ((H a = some (.lst xs) ∧ H b = some (.lst ys)) ∨ (H a = some (.tup xs) ∧ H b = some (.tup ys))) ∧
      xs.length = ys.length ∧ xs.length ≤ 1000 ∧ (∀ (i : Nat) (x y : V), xs[i]? = some x → ys[i]? = some y → Eqd H d x y) ∧ ∀ H', Same H H' → Q (.bl true) H') := by
    refine F.ok scSame (fun vs H Q E h => ?_) (fun cdv A outer s H vs Q E hr h => ?_)
    · obtain ⟨a, b, xs, ys, rfl, _⟩ := h
      rfl
    · obtain ⟨a, b, xs, ys, rfl, hs, hl, hz, hE, q⟩ := h
      refine ⟨_, pss_cons (ps_if (pt_cmpR op_isN (pv 1) pe_non (nomark _)) pss_never pss_nil)
        (pss_cons (ps_if (pt_val (pe_callB call_isi (by rfl) B.isinstance (by decide +kernel) (pa_cons (pv 1) (pa_cons (pe_bltn (v := .ty "bool") (by rfl) B.bool (by decide +kernel) rfl) pa_nil)))) pss_never pss_nil)
        (pss_cons (ps_if (pt_val (pe_callB call_isi (by rfl) B.isinstance (by decide +kernel) (pa_cons (pv 1) (pa_cons (pe_bltn (v := .ty "int") (by rfl) B.int (by decide +kernel) rfl) pa_nil)))) pss_never pss_nil)
        (pss_cons (ps_if (pt_val (pe_callB call_isi (by rfl) B.isinstance (by decide +kernel) (pa_cons (pv 1) (pa_cons (pe_bltn (v := .ty "str") (by rfl) B.str (by decide +kernel) rfl) pa_nil)))) pss_never pss_nil)
        (pss_cons (ps_if (pt_val (pe_callB call_isi (by rfl) B.isinstance (by decide +kernel) (pa_cons (pv 1) (pa_cons (pe_bltn (v := .ty "dict") (by rfl) B.dict (by decide +kernel) rfl) pa_nil)))) pss_never pss_nil)
        (pss_cons (ps_if (PW.pt (pw_or (pt_cmpR op_ne (pe_callB call_isi (by rfl) B.isinstance (by decide +kernel) (pa_cons (pv 1) (pa_cons (pe_bltn (v := .ty "tuple") (by rfl) B.tuple (by decide +kernel) rfl) pa_nil)))
              (pe_callB call_isi (by rfl) B.isinstance (by decide +kernel) (pa_cons (pv 0) (pa_cons (pe_bltn (v := .ty "tuple") (by rfl) B.tuple (by decide +kernel) rfl) pa_nil))) (nomark _))
            (pw_or1 (pt_cmpR op_ne (pe_callB call_isi (by rfl) B.isinstance (by decide +kernel) (pa_cons (pv 1) (pa_cons (pe_bltn (v := .ty "list") (by rfl) B.list (by decide +kernel) rfl) pa_nil)))
              (pe_callB call_isi (by rfl) B.isinstance (by decide +kernel) (pa_cons (pv 0) (pa_cons (pe_bltn (v := .ty "list") (by rfl) B.list (by decide +kernel) rfl) pa_nil))) (nomark _))))) pss_never pss_nil)
        (pss_cons (ps_if (pt_cmpR op_ne (pe_callB call_len_seq (by rfl) B.len PySem.boot_len (pa_cons (pv 0) pa_nil)) (pe_callB call_len_seq (by rfl) B.len PySem.boot_len (pa_cons (pv 1) pa_nil)) (nomark _)) pss_never pss_nil)
        (pss_one (ps_ret (pe_callB (cr_all rfl) (by rfl) B.all (by decide +kernel) (pa_cons
          (pe_lc (own := [("_law_at", 2)]) (g := gName 2) (tt := tYes) rfl scSame.nd (pi_range1 (by rfl) B.range (pa_cons (pe_callB call_len_seq (by rfl) B.len PySem.boot_len (pa_cons (pv 1) pa_nil)) pa_nil))
            (blkOk_by (own := [("_law_at", 2)]) (N := ["_law_found", "_law_due", "_law_at"]) (sc := defScope sSame) (by decide +kernel)) (fun _ _ _ _ _ => pg_name (i := 2) scSame.nd rfl (Or.inl rfl)) (fun _ _ _ _ _ => pts_nil)
            (fun _ _ _ _ _ => pe_call G hr (by rfl) gS kS bS .nil pass0 (pa_cons (pe_ix (r := rIx K) ix_seq (pv 0) (pv 2) (fun _ _ => rfl)) (pa_cons (pe_ix (r := rIx K) ix_seq (pv 1) (pv 2) (fun _ _ => rfl)) pa_nil)))) pa_nil)))))))))), ?_⟩
      obtain ⟨T, bt, bl, ta, tb, k1, k2, k3, k4, k5, k6⟩ := seq_ty (K := K) hs
      refine ⟨.ref b, rfl, rfl, _, rfl, iteF ?_⟩
      refine ⟨.ref b, rfl, _, _, _, _, false, rfl, .ty "bool", tb, kit_ty k1, _, rfl, iteF ?_⟩
      refine ⟨.ref b, rfl, _, _, _, _, false, rfl, .ty "int", tb, kit_ty k2, _, rfl, iteF ?_⟩
      refine ⟨.ref b, rfl, _, _, _, _, false, rfl, .ty "str", tb, kit_ty k3, _, rfl, iteF ?_⟩
      refine ⟨.ref b, rfl, _, _, _, _, false, rfl, .ty "dict", tb, kit_ty k4, _, rfl, iteF ?_⟩
      refine ⟨.ref b, rfl, _, _, _, _, bt, rfl, .ty "tuple", tb, kit_ty k5, .ref a, rfl, _, _, _, _, bt, rfl, .ty "tuple", ta, kit_ty k5, rfl, _, rfl, ?_⟩
      rw [bl_self]
      refine iteF ?_
      refine ⟨.ref b, rfl, _, _, _, _, bl, rfl, .ty "list", tb, kit_ty k6, .ref a, rfl, _, _, _, _, bl, rfl, .ty "list", ta, kit_ty k6, rfl, _, rfl, ?_⟩
      rw [bl_self]
      refine iteF ?_
      have sA : SqL K H a xs ∨ SqT K H a xs := hs.imp (fun q => SqL.of q.1) (fun q => SqT.of q.1)
      have sB : SqL K H b ys ∨ SqT K H b ys := hs.imp (fun q => SqL.of q.2) (fun q => SqT.of q.2)
      refine ⟨.ref a, rfl, a, xs, rfl, sA, .ref b, rfl, b, ys, rfl, sB, rfl, _, rfl, ?_⟩
      rw [hl, decide_eq_true rfl]
      refine iteF ?_
      refine ⟨.ref b, rfl, b, ys, rfl, sB, (ys.length : Nat), rfl, by omega, by omega, fun D nD => ?_⟩
      refine lc_range (lo := 0) (n := ((ys.length : Nat) : Int).toNat) (fun i H' => Same H H' ∧ H' D = some (.lst ((List.replicate i true).map V.bl))) ⟨same_new nD, upd_same⟩ (fun i H' hi ⟨sm, hD⟩ => ?_) (fun H' ⟨sm, hD⟩ => ?_)
      · have hi' : i < ys.length := by omega
        have hx : xs[i]? = some (xs[i]'(by omega)) := List.getElem?_eq_getElem (by omega)
        have hy : ys[i]? = some ys[i] := List.getElem?_eq_getElem hi'
        have ez : (0 : Int) + (i : Nat) = ((i : Nat) : Int) := by omega
        rw [ez]
        have sA' : rIx K (.ref a) (.int ((i : Nat) : Int)) H' = rIx K (.ref a) (.int ((i : Nat) : Int)) H' := rfl
        have rdA : ∀ Q : VK, Q (xs[i]'(by omega)) H' → rIx K (.ref a) (.int ((i : Nat) : Int)) H' Q := fun Q hQ => by
          rcases hs with ⟨h1, _⟩ | ⟨h1, _⟩
          · exact .inl ⟨a, xs, _, _, rfl, rfl, SqL.of (sm _ _ h1), atI_nat hx, hQ⟩
          · exact .inr (.inl ⟨a, xs, _, _, rfl, rfl, SqT.of (sm _ _ h1), atI_nat hx, hQ⟩)
        have rdB : ∀ Q : VK, Q ys[i] H' → rIx K (.ref b) (.int ((i : Nat) : Int)) H' Q := fun Q hQ => by
          rcases hs with ⟨_, h1⟩ | ⟨_, h1⟩
          · exact .inl ⟨b, ys, _, _, rfl, rfl, SqL.of (sm _ _ h1), atI_nat hy, hQ⟩
          · exact .inr (.inl ⟨b, ys, _, _, rfl, rfl, SqT.of (sm _ _ h1), atI_nat hy, hQ⟩)
        refine ⟨rfl, yes (iteT ?_)⟩
        refine ⟨.ref a, rfl, .int ((i : Nat) : Int), rfl, rdA _ ⟨.ref b, rfl, .int ((i : Nat) : Int), rfl, rdB _ ?_⟩⟩
        refine ⟨_, _, rfl, (hE i _ _ hx hy).same sm, fun H2 s2 => ⟨_, s2 _ _ hD, ?_, ?_, ?_⟩⟩
        · rw [List.length_map, List.length_replicate]
          exact small1000 (by omega)
        · exact fun c o e => by
            have nc : c ≠ D := fun z => by rw [z, nD] at e; cases e
            rw [upd_ne nc]
            exact s2 _ _ (sm _ _ e)
        · rw [upd_same, List.replicate_succ', List.map_append]
          rfl
      · refine ⟨D, _, rfl, SqL.of hD, ?_⟩
        have e : (List.replicate ((ys.length : Nat) : Int).toNat true).all id = true := by
          rw [List.all_eq_true]
          intro x hx
          exact (List.eq_of_mem_replicate hx)
        rw [e]
        exact q _ sm
  have leaf : FnOk P w K mg base CX0 (d + 2) f fd ["_law_found", "_law_due"] (spSame 0) := ok_same_leaf F B
  exact fnEither key leaf fun vs H Q E ⟨x, y, ev, h, q⟩ => by
    rcases h with h | ⟨a, b, xs, ys, rfl, rfl, hs, hl, hz, hE⟩
    · exact .inr ⟨x, y, ev, h, q⟩
    · exact .inl ⟨a, b, xs, ys, ev, hs, hl, hz, hE, q⟩
theorem ok_same {f : Addr} {fd : FuncData} (F : Fun K "_law_same" "_law_same" sSame f fd) (B : Bl mg) (gS : mg "_law_same" = some (.ref f)) (bS : Binds K fd ["_law_found", "_law_due"] []) :
    ∀ d : Nat, FnOk P w K mg base CX0 (d + 1) f fd ["_law_found", "_law_due"] (spSame d)
  | 0 => ok_same_leaf F B
  | d + 1 => ok_same_step F B gS F.kp bS (ok_same F B gS bS d)
end
end HL

namespace HL
open PySem PySem.Spec PyProof.Rows L2
open C8 (pss_cut)
/-! ### rows and lots in the heap -/
def Rows (H : Hp) : List Addr → List (List Int) → Prop
  | [], [] => True
  | a :: as, r :: rs => H a = some (.tup (r.map V.int)) ∧ Rows H as rs
  | _, _ => False
theorem Rows.len {H : Hp} : ∀ {as : List Addr} {ll : List (List Int)}, Rows H as ll → as.length = ll.length
  | [], [], _ => rfl
  | a :: as, r :: rs, h => by rw [List.length_cons, List.length_cons, Rows.len h.2]
  | [], _ :: _, h => h.elim
  | _ :: _, [], h => h.elim
theorem Rows.mono {H H' : Hp} : ∀ {as : List Addr} {ll : List (List Int)}, Rows H as ll → (∀ a xs, H a = some (.tup xs) → H' a = some (.tup xs)) → Rows H' as ll
  | [], [], _, _ => True.intro
  | a :: as, r :: rs, h, k => ⟨k _ _ h.1, Rows.mono h.2 k⟩
  | [], _ :: _, h, _ => h.elim
  | _ :: _, [], h, _ => h.elim
theorem Rows.same {H H' : Hp} {as : List Addr} {ll : List (List Int)} (h : Rows H as ll) (s : Same H H') : Rows H' as ll := h.mono fun a xs e => s _ _ e
theorem Rows.kp {H H' : Hp} {f c : Addr} {as : List Addr} {ll : List (List Int)} (h : Rows H as ll) (F : FeedAt c H f) (k : Kp f H H') : Rows H' as ll := h.mono fun a xs e => k _ _ (F.tup e) e
theorem Rows.app {H : Hp} : ∀ {as bs : List Addr} {ll mm : List (List Int)}, Rows H as ll → Rows H bs mm → Rows H (as ++ bs) (ll ++ mm)
  | [], _, [], _, _, h => h
  | a :: as, bs, r :: rs, mm, h, k => ⟨h.1, Rows.app h.2 k⟩
  | [], _, _ :: _, _, h, _ => h.elim
  | _ :: _, _, [], _, h, _ => h.elim
theorem Rows.take {H : Hp} : ∀ {as : List Addr} {ll : List (List Int)} (n : Nat), Rows H as ll → Rows H (as.take n) (ll.take n)
  | [], [], n, _ => by rw [List.take_nil, List.take_nil]; exact True.intro
  | _ :: _, _ :: _, 0, _ => True.intro
  | a :: as, r :: rs, n + 1, h => ⟨h.1, Rows.take n h.2⟩
  | [], _ :: _, _, h => h.elim
  | _ :: _, [], _, h => h.elim
theorem Rows.drop {H : Hp} : ∀ {as : List Addr} {ll : List (List Int)} (n : Nat), Rows H as ll → Rows H (as.drop n) (ll.drop n)
  | [], [], n, _ => by rw [List.drop_nil, List.drop_nil]; exact True.intro
  | _ :: _, _ :: _, 0, h => h
  | a :: as, r :: rs, n + 1, h => Rows.drop n h.2
  | [], _ :: _, _, h => h.elim
  | _ :: _, [], _, h => h.elim
theorem Rows.at {H : Hp} : ∀ {as : List Addr} {ll : List (List Int)} {i : Nat} {a : Addr}, Rows H as ll → as[i]? = some a → ∃ r, ll[i]? = some r ∧ H a = some (.tup (r.map V.int))
  | [], [], _, _, _, e => by simp at e
  | b :: as, r :: rs, 0, a, h, e => by
    have e' : b = a := Option.some.inj e
    subst e'
    exact ⟨r, rfl, h.1⟩
  | b :: as, r :: rs, i + 1, a, h, e => Rows.at (i := i) h.2 e
  | [], _ :: _, _, _, h, _ => h.elim
  | _ :: _, [], _, _, h, _ => h.elim
/-- a lot in the heap -/
def LotAt (H : Hp) (p : Addr) (ll : List (List Int)) : Prop := ∃ as : List Addr, H p = some (.tup (as.map V.ref)) ∧ Rows H as ll
theorem LotAt.same {H H' : Hp} {p : Addr} {ll : List (List Int)} (h : LotAt H p ll) (s : Same H H') : LotAt H' p ll := by
  obtain ⟨as, h1, h2⟩ := h
  exact ⟨as, s _ _ h1, h2.same s⟩
theorem LotAt.kp {H H' : Hp} {f c p : Addr} {ll : List (List Int)} (h : LotAt H p ll) (F : FeedAt c H f) (k : Kp f H H') : LotAt H' p ll := by
  obtain ⟨as, h1, h2⟩ := h
  exact ⟨as, k _ _ (F.tup h1) h1, h2.kp F k⟩
/-- a kind as it should be, of g amounts to m -/
def GoodRow (g m : Int) (r : List Int) : Prop := r.length = g.toNat ∧ (∀ n ∈ r, 0 ≤ n ∧ n ≤ m) ∧ ∃ n ∈ r, 0 < n
theorem pos_of_sum : ∀ {r : List Int}, (∀ n ∈ r, 0 ≤ n) → r.sum ≠ 0 → ∃ n ∈ r, 0 < n
  | [], _, h => absurd rfl h
  | x :: r, h0, h => by
    by_cases hx : 0 < x
    · exact ⟨x, List.mem_cons_self, hx⟩
    · have e : x = 0 := by
        have := h0 x List.mem_cons_self
        omega
      rw [List.sum_cons, e, Int.zero_add] at h
      obtain ⟨n, hn, hp⟩ := pos_of_sum (fun n hn => h0 n (List.mem_cons_of_mem _ hn)) h
      exact ⟨n, List.mem_cons_of_mem _ hn, hp⟩
/-! ### hold -/
theorem scHold : FnScope ["_law_feed_here", "_law_mgoods", "_law_most", "_law_hold_here", "_law_good"] ["_law_feed_here", "_law_mgoods", "_law_most"] (defScope sHold) := ⟨rfl, rfl, rfl, by decide +kernel, rfl, by decide +kernel, by decide +kernel⟩
theorem scLot : FnScope ["_law_feed_here", "_law_mgoods", "_law_kinds", "_law_most", "_law_kind"] ["_law_feed_here", "_law_mgoods", "_law_kinds", "_law_most"] (defScope sLot) := ⟨rfl, rfl, rfl, by decide +kernel, rfl, by decide +kernel, by decide +kernel⟩
theorem scAny : FnScope ["_law_feed_here"] ["_law_feed_here"] (defScope sAny) := ⟨rfl, rfl, rfl, by decide +kernel, rfl, by decide +kernel, by decide +kernel⟩
theorem scNoughts : FnScope ["_law_many"] ["_law_many"] (defScope sNoughts) := ⟨rfl, rfl, rfl, by decide +kernel, rfl, by decide +kernel, by decide +kernel⟩
section
variable {P : Program} {w : World} {K : PySem.W.Frag} {mg : Str → Option Value} {base : Heap}
def spHold : Sp := fun vs H Q _ => ∃ (f c : Addr) (g m : Int), vs = [.ref f, .int g, .int m] ∧ FeedAt c H f ∧ 1 ≤ g ∧ g ≤ 100 ∧ 1 ≤ m ∧ m ≤ 100 ∧
  ∀ H' p ns, Kp f H H' → FeedAt c H' f → H p = none → H' p = some (.tup (ns.map V.int)) → GoodRow g m ns → Q (.ref p) H'
theorem ok_hold {f : Addr} {fd : FuncData} (F : Fun K "_law_hold" "_law_hold" sHold f fd) (B : Bl mg) (CD : Cal P w K mg base CX0 1 "_law_draw" ["_law_feed_here", "_law_many"] spDraw) :
    FnOk P w K mg base CX0 2 f fd ["_law_feed_here", "_law_mgoods", "_law_most"] spHold := by
  obtain ⟨fD, fdD, GD, gD, kD, bD⟩ := CD.ex
  refine F.ok scHold (fun vs H Q E h => ?_) (fun cdv A outer s H vs Q E hr h => ?_)
  · obtain ⟨a, c, g, m, rfl, _⟩ := h
    rfl
  · obtain ⟨a, c, g, m, rfl, Fd, g1, g2, m1, m2, q⟩ := h
    refine ⟨_, pss_cons (ps_setLc (i := 3) (own := [("_law_good", 4)]) (g := gName 4) (tt := tYes) rfl scHold.nd rfl rfl (sw_true rfl rfl rfl (by decide +kernel)) (pi_range1 (by rfl) B.range (pa_cons (pv 1) pa_nil))
          (blkOk_by (own := [("_law_good", 4)]) (N := ["_law_feed_here", "_law_mgoods", "_law_most", "_law_hold_here", "_law_good"]) (sc := defScope sHold) (by decide +kernel)) (fun _ _ _ _ _ => pg_name (i := 4) scHold.nd rfl (Or.inl rfl)) (fun _ _ _ _ _ => pts_nil)
          (fun _ _ _ _ _ => pe_ifExp (pt_cmpR op_gt (pe_call GD hr (by rfl) gD kD bD .nil pass0 (pa_cons (pv 0) (pa_cons pe_int pa_nil))) pe_int (nomark _)) (pe_call GD hr (by rfl) gD kD bD .nil pass0 (pa_cons (pv 0) (pa_cons (pe_op op_add (pv 2) pe_int) pa_nil))) pe_int))
      (pss_cut (ps_if (pt_cmpR op_eq (pe_callB (cr_sum rfl) (by rfl) B.sum (by decide +kernel) (pa_cons (pv 3) pa_nil)) pe_int (nomark _))
          (pss_one (ps_asg (pe_op op_add pe_int (pe_call GD hr (by rfl) gD kD bD .nil pass0 (pa_cons (pv 0) (pa_cons (pv 2) pa_nil)))) (pg_sub (pv 3) (pe_call GD hr (by rfl) gD kD bD .nil pass0 (pa_cons (pv 0) (pa_cons (pv 1) pa_nil))) set_list))) pss_nil)
        (pss_one (ps_ret (pe_callTy call_tuple_of (by rfl) B.tuple (by decide +kernel) (pa_cons (pv 3) pa_nil))))), ?_⟩
    refine ⟨.int g, rfl, g, rfl, by omega, by omega, fun D nD => ?_⟩
    have nDf : D ≠ a := Fd.ne nD
    have nDc : D ≠ c := Fd.neC nD
    refine lc_range (lo := 0) (n := g.toNat) (fun i H' => Kp a H H' ∧ FeedAt c H' a ∧ ∃ ns : List Int, H' D = some (.lst (ns.map V.int)) ∧ ns.length = i ∧ ∀ n ∈ ns, 0 ≤ n ∧ n ≤ m)
      ⟨Kp.new nD, Fd.new nD, [], upd_same, rfl, fun n hn => by cases hn⟩ (fun i H' hi ⟨kp, F', ns, hD, hl, hb⟩ => ?_) (fun H' ⟨kp, F', ns, hD, hl, hb⟩ => ?_)
    · refine ⟨rfl, yes (iteT ?_)⟩
      have more : ∀ (H2 : Hp) (d : Int), Kp a H' H2 → FeedAt c H2 a → 0 ≤ d → d ≤ m → ∃ acc, H2 D = some (.lst acc) ∧ acc.length < sizeLine ∧ Kp a H (upd H2 D (.lst (acc ++ [.int d]))) ∧ FeedAt c (upd H2 D (.lst (acc ++ [.int d]))) a ∧
          ∃ ns : List Int, upd H2 D (.lst (acc ++ [.int d])) D = some (.lst (ns.map V.int)) ∧ ns.length = i + 1 ∧ ∀ n ∈ ns, 0 ≤ n ∧ n ≤ m := fun H2 d k2 F2 d0 d1 => by
        have hD2 := k2 _ _ nDf hD
        refine ⟨_, hD2, ?_, ?_, ?_, ns ++ [d], ?_, ?_, ?_⟩
        · rw [List.length_map]
          exact small1000 (by omega)
        · exact (kp.trans k2).late nD
        · exact F2.put nDf nDc
        · rw [upd_same, List.map_append]
          rfl
        · rw [List.length_append, hl]
          rfl
        · intro n hn
          rcases List.mem_append.mp hn with h | h
          · exact hb n h
          · rw [List.mem_singleton.mp h]
            exact ⟨d0, d1⟩
      refine ⟨.ref a, rfl, a, c, 3, rfl, by decide, by decide, F', fun d1 H1 _ _ k1 F1 => ?_⟩
      refine ⟨d1, 0, rfl, rfl, _, rfl, ite2 (fun _ => ?_) (fun _ => ?_)⟩
      · refine ⟨.ref a, rfl, .int m, rfl, m, 1, rfl, rfl, a, c, m + 1, rfl, by omega, by omega, F1, fun d2 H2 e0 e1 k2 F2 => ?_⟩
        exact more H2 d2 (k1.trans k2) F2 e0 (by omega)
      · exact more H1 0 k1 F1 (by decide) (by omega)
    · -- behind the comprehension
      refine ⟨fun σ' H2 => ∃ ns : List Int, σ' = [some (.ref a), some (.int g), some (.int m), some (.ref D), none] ∧ Kp a H H2 ∧ FeedAt c H2 a ∧ H2 D = some (.lst (ns.map V.int)) ∧ GoodRow g m ns, ?_, ?_⟩
      · refine ⟨.ref D, rfl, D, ns, rfl, SqL.of hD, rfl, _, rfl, ite2 (fun cs => ?_) (fun cs => ?_)⟩
        · refine ⟨.ref a, rfl, .int m, rfl, a, c, m, rfl, by omega, by omega, F', fun d1 H1 e0 e1 k1 F1 => ?_⟩
          refine ⟨1, d1, rfl, rfl, .ref D, rfl, .ref a, rfl, .int g, rfl, a, c, g, rfl, by omega, by omega, F1, fun d2 H2 c0 c1 k2 F2 => ?_⟩
          have hD2 : H2 D = some (.lst (ns.map V.int)) := k2 _ _ nDf (k1 _ _ nDf hD)
          have hj : ixN (ns.map V.int).length d2 = some d2.toNat := by
            unfold ixN
            rw [if_pos c0, if_pos (by rw [List.length_map]; omega)]
          refine ⟨D, _, d2, d2.toNat, rfl, rfl, hD2, hj, ns.set d2.toNat (1 + d1), rfl, ?_, ?_, ?_, ?_, ?_, ?_⟩
          · exact (kp.trans (k1.trans k2)).late nD
          · exact F2.put nDf nDc
          · rw [upd_same, List.map_set]
          · rw [List.length_set]
            exact hl
          · intro n hn
            rcases List.mem_or_eq_of_mem_set hn with h | h
            · exact hb n h
            · rw [h]
              omega
          · exact ⟨1 + d1, List.mem_iff_getElem.mpr ⟨d2.toNat, by rw [List.length_set]; omega, by simp⟩, by omega⟩
        · have hs : ns.sum ≠ 0 := fun z => cs (decide_eq_true (by rw [z]))
          exact ⟨ns, rfl, kp, F', hD, hl, hb, pos_of_sum (fun n hn => (hb n hn).1) hs⟩
      · rintro σ' H2 ⟨ms, rfl, k2, F2, hD2, G2⟩
        refine ⟨.ref D, rfl, D, _, rfl, .inl ⟨SqL.of hD2, fun p np => ?_⟩⟩
        exact q _ p ms (k2.trans (Kp.new np)) (F2.new np) (k2.free (F2.ne np) np) upd_same G2
end
end HL

namespace HL
open PySem PySem.Spec PyProof.Rows L2
open C8 (pss_cut)
section
variable {P : Program} {w : World} {K : PySem.W.Frag} {mg : Str → Option Value} {base : Heap}
/-! ### lots -/
/-- a lot as it should be -/
def GoodLot (g m : Int) (n : Nat) (ll : List (List Int)) : Prop := 1 ≤ ll.length ∧ ll.length ≤ n ∧ ∀ r ∈ ll, GoodRow g m r
def spLot : Sp := fun vs H Q _ => ∃ (f c : Addr) (g kk m : Int), vs = [.ref f, .int g, .int kk, .int m] ∧ FeedAt c H f ∧ 1 ≤ g ∧ g ≤ 100 ∧ 1 ≤ kk ∧ kk ≤ 100 ∧ 1 ≤ m ∧ m ≤ 100 ∧
  ∀ H' p ll, Kp f H H' → FeedAt c H' f → H p = none → LotAt H' p ll → GoodLot g m kk.toNat ll → Q (.ref p) H'
theorem ok_lot {f : Addr} {fd : FuncData} (F : Fun K "_law_lot" "_law_lot" sLot f fd) (B : Bl mg) (CD : Cal P w K mg base CX0 1 "_law_draw" ["_law_feed_here", "_law_many"] spDraw)
    (CH : Cal P w K mg base CX0 2 "_law_hold" ["_law_feed_here", "_law_mgoods", "_law_most"] spHold) : FnOk P w K mg base CX0 3 f fd ["_law_feed_here", "_law_mgoods", "_law_kinds", "_law_most"] spLot := by
  obtain ⟨fD, fdD, GD, gD, kD, bD⟩ := CD.ex
  obtain ⟨fH, fdH, GH, gH, kH, bH⟩ := CH.ex
  refine F.ok scLot (fun vs H Q E h => ?_) (fun cdv A outer s H vs Q E hr h => ?_)
  · obtain ⟨a, c, g, kk, m, rfl, _⟩ := h
    rfl
  · obtain ⟨a, c, g, kk, m, rfl, Fd, g1, g2, n1, n2, m1, m2, q⟩ := h
    refine ⟨_, pss_one (ps_ret (pe_callTy call_tuple_of (by rfl) B.tuple (by decide +kernel) (pa_cons
      (pe_lc (own := [("_law_kind", 4)]) (g := gName 4) (tt := tYes) rfl scLot.nd (pi_range1 (by rfl) B.range (pa_cons (pe_op op_add pe_int (pe_call GD (hr.mono (by decide)) (by rfl) gD kD bD .nil pass0 (pa_cons (pv 0) (pa_cons (pv 2) pa_nil)))) pa_nil))
        (blkOk_by (own := [("_law_kind", 4)]) (N := ["_law_feed_here", "_law_mgoods", "_law_kinds", "_law_most", "_law_kind"]) (sc := defScope sLot) (by decide +kernel)) (fun _ _ _ _ _ => pg_name (i := 4) scLot.nd rfl (Or.inl rfl)) (fun _ _ _ _ _ => pts_nil)
        (fun _ _ _ _ _ => pe_call GH hr (by rfl) gH kH bH .nil pass0 (pa_cons (pv 0) (pa_cons (pv 1) (pa_cons (pv 3) pa_nil))))) pa_nil))), ?_⟩
    refine ⟨.ref a, rfl, .int kk, rfl, a, c, kk, rfl, by omega, by omega, Fd, fun d H1 d0 d1 k1 F1 => ?_⟩
    refine ⟨1, d, rfl, rfl, 1 + d, rfl, by omega, by omega, fun D nD => ?_⟩
    have nDf : D ≠ a := F1.ne nD
    have nDc : D ≠ c := F1.neC nD
    have nD0 : H D = none := k1.free nDf nD
    refine lc_range (lo := 0) (n := (1 + d).toNat) (fun i H' => Kp a H H' ∧ FeedAt c H' a ∧ ∃ (as : List Addr) (ll : List (List Int)), H' D = some (.lst (as.map V.ref)) ∧ Rows H' as ll ∧ ll.length = i ∧ ∀ r ∈ ll, GoodRow g m r)
      ⟨k1.late nD0, F1.new nD, [], [], upd_same, True.intro, rfl, fun n hn => by cases hn⟩ (fun i H' hi ⟨kp, F', as, ll, hD, hR, hl, hb⟩ => ?_) (fun H' ⟨kp, F', as, ll, hD, hR, hl, hb⟩ => ?_)
    · refine ⟨rfl, yes (iteT ?_)⟩
      refine ⟨.ref a, rfl, .int g, rfl, .int m, rfl, a, c, g, m, rfl, F', g1, g2, m1, m2, fun H2 p ns k2 F2 np hp gr => ?_⟩
      have hD2 := k2 _ _ nDf hD
      have nt : ∀ b xs, H2 b = some (.tup xs) → upd H2 D (.lst (as.map V.ref ++ [.ref p])) b = some (.tup xs) := fun b xs e => by
        rw [upd_ne (ne_of e hD2 (fun z => by cases z))]
        exact e
      refine ⟨_, hD2, ?_, (kp.trans k2).late nD0, F2.put nDf nDc, as ++ [p], ll ++ [ns], ?_, ?_, ?_, ?_⟩
      · rw [List.length_map, hR.len]
        exact small1000 (by omega)
      · rw [upd_same, List.map_append]
        rfl
      · exact ((hR.kp F' k2).mono nt).app ⟨nt _ _ hp, True.intro⟩
      · rw [List.length_append, hl]
        rfl
      · intro r hr
        rcases List.mem_append.mp hr with h | h
        · exact hb r h
        · rw [List.mem_singleton.mp h]
          exact gr
    · refine ⟨D, _, rfl, .inl ⟨SqL.of hD, fun p np => ?_⟩⟩
      exact q _ p ll (kp.trans (Kp.new np)) (F'.new np) (kp.free (F'.ne np) np) ⟨as, upd_same, hR.same (same_new np)⟩ ⟨by omega, by omega, hb⟩
def spAny : Sp := fun vs H Q _ => ∃ (f c : Addr), vs = [.ref f] ∧ FeedAt c H f ∧
  ∀ H' p ll g m, Kp f H H' → FeedAt c H' f → H p = none → LotAt H' p ll → 1 ≤ g → g ≤ 3 → 1 ≤ m → m ≤ 6 → GoodLot g m 5 ll → Q (.ref p) H'
theorem ok_any {f : Addr} {fd : FuncData} (F : Fun K "_law_any_lot" "_law_any_lot" sAny f fd) (CD : Cal P w K mg base CX0 1 "_law_draw" ["_law_feed_here", "_law_many"] spDraw)
    (CP : Cal P w K mg base CX0 2 "_law_pick" ["_law_feed_here", "_law_row"] spPick) (CL : Cal P w K mg base CX0 3 "_law_lot" ["_law_feed_here", "_law_mgoods", "_law_kinds", "_law_most"] spLot) : FnOk P w K mg base CX0 4 f fd ["_law_feed_here"] spAny := by
  obtain ⟨fD, fdD, GD, gD, kD, bD⟩ := CD.ex
  obtain ⟨fP, fdP, GP, gP, kP, bP⟩ := CP.ex
  obtain ⟨fL, fdL, GL, gL, kL, bL⟩ := CL.ex
  refine F.ok scAny (fun vs H Q E h => ?_) (fun cdv A outer s H vs Q E hr h => ?_)
  · obtain ⟨a, c, rfl, _⟩ := h
    rfl
  · obtain ⟨a, c, rfl, Fd, q⟩ := h
    refine ⟨_, pss_one (ps_ret (pe_call GL hr (by rfl) gL kL bL .nil pass0 (pa_cons (pv 0) (pa_cons (pe_op op_add pe_int (pe_call GD (hr.mono (by decide)) (by rfl) gD kD bD .nil pass0 (pa_cons (pv 0) (pa_cons pe_int pa_nil)))) (pa_cons pe_int
      (pa_cons (pe_call GP (hr.mono (by decide)) (by rfl) gP kP bP .nil pass0 (pa_cons (pv 0) (pa_cons (pe_lst (pa_cons pe_int (pa_cons pe_int (pa_cons pe_int (pa_cons pe_int pa_nil))))) pa_nil))) pa_nil)))))), ?_⟩
    refine ⟨.ref a, rfl, .ref a, rfl, a, c, 3, rfl, by decide, by decide, Fd, fun d H1 d0 d1 k1 F1 => ?_⟩
    refine ⟨1, d, rfl, rfl, .ref a, rfl, (by show 4 ≤ sizeLine; decide), fun r nr => ?_⟩
    refine ⟨a, c, r, _, rfl, upd_same, F1.ne nr, by decide, by decide, F1.new nr, fun v H2 hv k2 F2 => ?_⟩
    obtain ⟨m, rfl, m1, m2⟩ : ∃ m : Int, v = .int m ∧ 1 ≤ m ∧ m ≤ 6 := by
      simp only [List.mem_cons, List.mem_nil_iff, or_false] at hv
      rcases hv with h | h | h | h <;> exact ⟨_, h, by decide, by decide⟩
    refine ⟨a, c, 1 + d, 5, m, rfl, F2, by omega, by omega, by decide, by decide, m1, by omega, fun H3 p ll k3 F3 np hL gl => ?_⟩
    have k12 : Kp a H H2 := k1.trans ((Kp.new nr).trans k2)
    exact q H3 p ll (1 + d) m (k12.trans k3) F3 (k12.free (F2.ne np) np) hL (by omega) (by omega) m1 m2 gl
def spNoughts : Sp := fun vs H Q _ => ∃ n : Int, vs = [.int n] ∧ 1 ≤ n ∧ n ≤ 1000 ∧ ∀ H' p, Same H H' → H p = none → H' p = some (.tup ((List.replicate n.toNat (0 : Int)).map V.int)) → Q (.ref p) H'
theorem rep_one (v : V) : ∀ n : Nat, (List.replicate n [v]).flatten = List.replicate n v
  | 0 => rfl
  | n + 1 => by
    rw [List.replicate_succ, List.flatten_cons, rep_one v n, List.replicate_succ]
    rfl
theorem ok_noughts {f : Addr} {fd : FuncData} {k : Nat} (F : Fun K "_law_noughts" "_law_noughts" sNoughts f fd) : FnOk P w K mg base CX0 (k + 1) f fd ["_law_many"] spNoughts := by
  refine F.ok scNoughts (fun vs H Q E h => ?_) (fun cdv A outer s H vs Q E hr h => ?_)
  · obtain ⟨n, rfl, _⟩ := h
    rfl
  · obtain ⟨n, rfl, n1, n2, q⟩ := h
    refine ⟨_, pss_one (ps_ret (pe_op op_repA (pe_tup (pa_cons pe_int pa_nil)) (pv 0))), ?_⟩
    refine ⟨(by show 1 ≤ sizeLine; decide), fun t nt => ?_⟩
    refine ⟨.int n, rfl, t, n, [.int 0], rfl, rfl, SqT.of upd_same, by decide, n1, n2, by decide, fun e => ?_, fun e p np => ?_⟩
    · subst e
      exact q _ t (same_new nt) nt upd_same
    · refine q _ p ((same_new nt).trans (same_new np)) ((same_new nt).free np) ?_
      rw [upd_same, rep_one, List.map_replicate]
end
end HL

namespace HL
open PySem PySem.Spec PyProof.Rows L2
open C8 (pss_cut)
/-! ### what a lot must be -/
def okRow (g : Nat) (r : List Int) : Bool := decide (r.length = g) && (r.all (fun n => decide (0 ≤ n ∧ n ≤ 6)) && r.any (fun n => decide (0 < n)))
def flawIn (g : Nat) (ll : List (List Int)) : Option Int := (ll.findIdx? fun r => !okRow g r).map fun i => (i : Int)
def width (ll : List (List Int)) : Nat := (ll.headD []).length
def flaw (ll : List (List Int)) : Option Int := if 1 ≤ ll.length ∧ ll.length ≤ 5 ∧ 1 ≤ width ll ∧ width ll ≤ 3 then flawIn (width ll) ll else some (-1)
def flawV (ll : List (List Int)) : V := match flaw ll with
  | none => .non
  | some k => .int k
theorem flawIn_at {g : Nat} {ll : List (List Int)} {i : Nat} {r : List Int} (h : ll[i]? = some r) (hb : okRow g r = false) (ha : ∀ (j : Nat) (r' : List Int), j < i → ll[j]? = some r' → okRow g r' = true) : flawIn g ll = some (i : Int) := by
  unfold flawIn
  obtain ⟨hi, he⟩ := List.getElem?_eq_some_iff.mp h
  have e : ll.findIdx? (fun r => !okRow g r) = some i := by
    refine List.findIdx?_eq_some_iff_getElem.mpr ⟨hi, by rw [he, hb]; rfl, fun j hj => ?_⟩
    rw [ha j ll[j] hj (List.getElem?_eq_getElem (by omega))]
    decide
  rw [e]
  rfl
theorem flawIn_none {g : Nat} {ll : List (List Int)} (ha : ∀ (j : Nat) (r' : List Int), j < ll.length → ll[j]? = some r' → okRow g r' = true) : flawIn g ll = none := by
  unfold flawIn
  have e : ll.findIdx? (fun r => !okRow g r) = none := by
    refine List.findIdx?_eq_none_iff.mpr fun r hr => ?_
    obtain ⟨j, hj, hjr⟩ := List.mem_iff_getElem.mp hr
    rw [ha j r hj (by rw [List.getElem?_eq_getElem hj, hjr])]
    rfl
  rw [e]
  rfl
theorem all_in {r : List Int} : (r.all (fun n => decide (0 ≤ n ∧ n ≤ 6))) = true ↔ ∀ n ∈ r, 0 ≤ n ∧ n ≤ 6 := by
  rw [List.all_eq_true]
  exact ⟨fun h n hn => of_decide_eq_true (h n hn), fun h n hn => decide_eq_true (h n hn)⟩
theorem any_pos {r : List Int} : (r.any (fun n => decide (0 < n))) = true ↔ ∃ n ∈ r, 0 < n := by
  rw [List.any_eq_true]
  exact ⟨fun ⟨n, hn, h⟩ => ⟨n, hn, of_decide_eq_true h⟩, fun ⟨n, hn, h⟩ => ⟨n, hn, decide_eq_true h⟩⟩
theorem okRow_iff {g : Nat} {r : List Int} : okRow g r = true ↔ r.length = g ∧ (∀ n ∈ r, 0 ≤ n ∧ n ≤ 6) ∧ ∃ n ∈ r, 0 < n := by
  unfold okRow
  rw [Bool.and_eq_true, Bool.and_eq_true, decide_eq_true_iff, all_in, any_pos]
theorem sum_pos {r : List Int} (h0 : ∀ n ∈ r, 0 ≤ n) (h : ∃ n ∈ r, 0 < n) : 0 < r.sum := by
  induction r with
  | nil => obtain ⟨n, hn, _⟩ := h; cases hn
  | cons x r ih =>
    rw [List.sum_cons]
    have x0 := h0 x List.mem_cons_self
    have rest : 0 ≤ r.sum := by
      clear ih h
      induction r with
      | nil => exact Int.le_refl _
      | cons y r ih2 =>
        rw [List.sum_cons]
        have := h0 y (List.mem_cons_of_mem _ List.mem_cons_self)
        have := ih2 fun n hn => h0 n (by
          rcases List.mem_cons.mp hn with h | h
          · rw [h]; exact List.mem_cons_self
          · exact List.mem_cons_of_mem _ (List.mem_cons_of_mem _ h))
        omega
    obtain ⟨n, hn, hp⟩ := h
    rcases List.mem_cons.mp hn with h | h
    · omega
    · have := ih (fun n hn => h0 n (List.mem_cons_of_mem _ hn)) ⟨n, h, hp⟩
      omega
/-- 1 <= x <= 5 as a test -/
theorem chainI {i j L : Int} {H : Hp} {Q : Bool → Hp → Prop} (h : Q (decide (i ≤ L ∧ L ≤ j)) H) :
    if decide (i ≤ L) = true then (∃ a b : Int, V.int L = V.int a ∧ V.int j = V.int b ∧ ∃ k, V.bl (decide (a ≤ b)) = V.bl k ∧ Q k H) else ∃ k, V.bl false = V.bl k ∧ Q k H := by
  by_cases c : i ≤ L
  · rw [if_pos (decide_eq_true c)]
    refine ⟨L, j, rfl, rfl, _, rfl, ?_⟩
    rw [show decide (L ≤ j) = decide (i ≤ L ∧ L ≤ j) by simp [c]]
    exact h
  · rw [if_neg (fun z => c (of_decide_eq_true z))]
    refine ⟨false, rfl, ?_⟩
    rw [show false = decide (i ≤ L ∧ L ≤ j) by simp [c]]
    exact h
theorem Rows.head {H : Hp} {as : List Addr} {ll : List (List Int)} (h : Rows H as ll) (hl : 1 ≤ ll.length) : ∃ a, as[0]? = some a ∧ H a = some (.tup ((ll.headD []).map V.int)) ∧ (ll.headD []).length = width ll := by
  cases as with
  | nil =>
    cases ll with
    | nil => simp at hl
    | cons r rs => exact h.elim
  | cons a as =>
    cases ll with
    | nil => simp at hl
    | cons r rs => exact ⟨a, rfl, h.1, rfl⟩
end HL

namespace HL
open PySem PySem.Spec PyProof.Rows L2
open C8 (pss_cut)
/-! ### the refusal -/
abbrev sBadInit : Stmt := inClass (topS 2) 0
theorem scBI : FnScope ["self", "kind"] ["self", "kind"] (defScope sBadInit) := ⟨rfl, rfl, rfl, by decide +kernel, rfl, by decide +kernel, by decide +kernel⟩
/-- what is known of a refusal's class whose __init__ stores a word and a field -/
structure Cls2 (K : PySem.W.Frag) (C : Addr) (f : Str) : Prop where
  ox : OexC K C
  noW : PySem.W.findIn K (.ref C) "word" = some none
  noF : PySem.W.findIn K (.ref C) f = some none
abbrev exF (f wd : Str) (v : V) : List (Str × V) := [(f, v), ("word", .str wd)]
def spInit2 (C : Addr) (f wd : Str) : Sp := fun vs H Q _ => ∃ (a : Addr) (v : V), vs = [.ref a, v] ∧ H a = some (exo a C none) ∧
  ∀ dx, H dx = none → dx ≠ a → Q .non (upd (upd (upd H dx (exd dx [("word", .str wd)])) a (exo a C (some dx))) dx (exd dx (exF f wd v)))
section
variable {P : Program} {w : World} {K : PySem.W.Frag} {mg : Str → Option Value} {base : Heap}
theorem ok_badInit {f : Addr} {fd : FuncData} {k : Nat} {C : Addr} (F : Fun K "__init__" "BadLot.__init__" sBadInit f fd) (T : Cls2 K C "kind") : FnOk P w K mg base CX0 (k + 1) f fd ["self", "kind"] (spInit2 C "kind" "bad lot") := by
  refine F.ok scBI (fun vs H Q E h => ?_) (fun cdv A outer s H vs Q E hr h => ?_)
  · obtain ⟨a, v, rfl, _⟩ := h
    rfl
  · obtain ⟨a, v, rfl, ha, q⟩ := h
    refine ⟨_, pss_cons (ps_ost (pv 0) pe_str) (pss_one (ps_ost (pv 0) (pv 1))), ?_⟩
    refine ⟨.ref a, rfl, a, C, rfl, T.ox, T.noW, .inl ⟨ha, fun dx nd ne => ?_⟩⟩
    refine ⟨v, rfl, .ref a, rfl, a, C, rfl, T.ox, T.noF, .inr ⟨dx, _, upd_same, ?_, (by show 1 ≤ 900; decide), q dx nd ne⟩⟩
    rw [upd_ne ne, upd_same]
/-- the heap behind a refusal that was made -/
theorem xd_same {H : Hp} {a dx : Addr} {o1 o2 o3 o4 o5 : HO} (na : H a = none) (nd : H dx = none) : Same H (upd (del (upd (upd (upd (upd H a o1) dx o2) a o3) dx o4) a) dx o5) := fun b o e => by
  have n1 := ne_of_none e na
  have n2 := ne_of_none e nd
  rw [upd_ne n2, del_ne n1, upd_ne n2, upd_ne n1, upd_ne n2, upd_ne n1]
  exact e
/-- refused with the class at C, field f holding v -/
def Refd (C : Addr) (f wd : Str) (v : V) (H : Hp) (E : XK) : Prop := ∀ H' d, Same H H' → H d = none → H' d = some (.xd (exF f wd v)) → E (.ref C) (some d) H'
theorem Refd.same {C : Addr} {f wd : Str} {v : V} {H H1 : Hp} {E : XK} (h : Refd C f wd v H E) (s : Same H H1) : Refd C f wd v H1 E := fun H' d s' n e => h H' d (s.trans s') (s.free n) e
/-- raise C(v): its reading from what is wanted -/
theorem mk_refd {C : Addr} {f wd : Str} {v : V} {H : Hp} {E : XK} (h : Refd C f wd v H E) : [v].length ≤ 1000 ∧ ∀ a, H a = none → spInit2 C f wd (.ref a :: ([v] ++ [])) (upd H a (exo a C none))
    (fun u H2 => u = .non ∧ ∃ (d : Addr) (fs : List (Str × V)), H2 a = some (exo a C (some d)) ∧ H2 d = some (exd d fs) ∧ H d = none ∧ E (.ref C) (some d) (upd (del H2 a) d (.xd fs))) (fun _ _ _ => False) := by
  refine ⟨(by show 1 ≤ 1000; decide), fun a na => ⟨a, v, rfl, upd_same, fun dx nd ne => ⟨rfl, dx, exF f wd v, ?_, upd_same, ?_, ?_⟩⟩⟩
  · rw [upd_ne (Ne.symm ne), upd_same]
  · rw [upd_ne ne] at nd
    exact nd
  · rw [upd_ne ne] at nd
    exact h _ dx (xd_same na nd) nd upd_same
/-! ### is_hold -/
theorem scIH : FnScope ["hold", "goods", "amount"] ["hold", "goods"] (defScope sIsHold) := ⟨rfl, rfl, rfl, by decide +kernel, rfl, by decide +kernel, by decide +kernel⟩
theorem scLk : FnScope ["lot", "kind", "hold"] ["lot"] (defScope sLook) := ⟨rfl, rfl, rfl, by decide +kernel, rfl, by decide +kernel, by decide +kernel⟩
theorem scGo : FnScope ["lot"] ["lot"] (defScope sGoods) := ⟨rfl, rfl, rfl, by decide +kernel, rfl, by decide +kernel, by decide +kernel⟩
/-- 0 <= x <= 6 as a value -/
theorem chainV {i j L : Int} {H : Hp} {σ : L2.St} {Q : VK} (h : Q (.bl (decide (i ≤ L ∧ L ≤ j))) H) :
    if decide (i ≤ L) = true then tC (.int j) σ H (fun v H4 => rI0 (fun i j => V.bl (decide (i ≤ j))) (.int L) v H4 Q) else Q (.bl false) H := by
  by_cases c : i ≤ L
  · rw [if_pos (decide_eq_true c)]
    refine ⟨L, j, rfl, rfl, ?_⟩
    show Q (.bl (decide (L ≤ j))) H
    rw [show decide (L ≤ j) = decide (i ≤ L ∧ L ≤ j) by simp [c]]
    exact h
  · rw [if_neg (fun z => c (of_decide_eq_true z))]
    rw [show false = decide (i ≤ L ∧ L ≤ j) by simp [c]]
    exact h
def spIsHold : Sp := fun vs H Q _ => ∃ (a : Addr) (g : Nat) (r : List Int), vs = [.ref a, .int (g : Int)] ∧ H a = some (.tup (r.map V.int)) ∧ r.length ≤ 1000 ∧ 1 ≤ g ∧ ∀ H', Same H H' → Q (.bl (okRow g r)) H'
structure Consts (mg : Str → Option Value) : Prop where
  hold : ∃ t, mg "MOST_HOLD" = some (.int 6 t)
  kinds : ∃ t, mg "MOST_KINDS" = some (.int 5 t)
  goods : ∃ t, mg "MOST_GOODS" = some (.int 3 t)
theorem ok_isHold {f : Addr} {fd : FuncData} {k : Nat} (F : Fun K "is_hold" "is_hold" sIsHold f fd) (B : Bl mg) (M : Consts mg) : FnOk P w K mg base CX0 (k + 1) f fd ["hold", "goods"] spIsHold := by
  obtain ⟨t6, m6⟩ := M.hold
  refine F.ok scIH (fun vs H Q E h => ?_) (fun cdv A outer s H vs Q E hr h => ?_)
  · obtain ⟨a, g, r, rfl, _⟩ := h
    rfl
  · obtain ⟨a, g, r, rfl, ha, hz, g1, q⟩ := h
    refine ⟨_, pss_one (ps_ret (pe_and (pe_cmpR op_eq (pe_callB call_len_seq (by rfl) B.len PySem.boot_len (pa_cons (pv 0) pa_nil)) (pv 1) (nomark _))
      (pe_and (pe_callB (cr_all rfl) (by rfl) B.all (by decide +kernel) (pa_cons (pe_lc (own := [("amount", 2)]) (g := gName 2) (tt := tYes) rfl scIH.nd (pi_tup (pv 0))
          (blkOk_by (own := [("amount", 2)]) (N := ["hold", "goods", "amount"]) (sc := defScope sIsHold) (by decide +kernel)) (fun _ _ _ _ _ => pg_name (i := 2) scIH.nd rfl (Or.inl rfl)) (fun _ _ _ _ _ => pts_nil)
          (fun _ _ _ _ _ => pe_chain op_le op_le pe_int (pv 2) (pe_glob (v := .int 6) rfl m6 ⟨_, rfl⟩))) pa_nil))
        (pe_one (pe_cmpR op_gt (pe_callB (cr_maxT rfl hr.units) (by rfl) B.max (by decide +kernel) (pa_cons (pv 0) pa_nil)) pe_int (nomark _)))))), ?_⟩
    have sA : SqT K H a (r.map V.int) := SqT.of ha
    refine ⟨.ref a, rfl, a, _, rfl, .inr sA, .int (g : Int), rfl, rfl, _, rfl, ?_⟩
    rw [List.length_map]
    refine ite2 (fun c1 => ?_) (fun c1 => ?_)
    · have hl : r.length = g := by
        have := V.int.inj (of_decide_eq_true c1)
        omega
      refine ⟨.ref a, rfl, a, rfl, ⟨_, sA⟩, fun D nD => ?_⟩
      refine lc_tup (K := K) (a := a) (xs := r.map V.int) (fun i H' => Same H H' ∧ H' D = some (.lst (((r.take i).map fun n => decide (0 ≤ n ∧ n ≤ 6)).map V.bl))) ⟨same_new nD, upd_same⟩ (fun i H' _ ⟨sm, _⟩ => SqT.of (sm _ _ ha)) (fun i x H' hx ⟨sm, hD⟩ => ?_) (fun H' ⟨sm, hD⟩ => ?_)
      · obtain ⟨n, hn, rfl⟩ : ∃ n, r[i]? = some n ∧ x = V.int n := by
          rw [List.getElem?_map] at hx
          cases e : r[i]? with
          | none => rw [e] at hx; cases hx
          | some n => rw [e] at hx; exact ⟨n, rfl, (Option.some.inj hx).symm⟩
        refine ⟨rfl, yes (iteT ?_)⟩
        refine ⟨.int n, rfl, 0, n, rfl, rfl, _, rfl, chainV ?_⟩
        refine ⟨_, hD, ?_, same_late sm nD, ?_⟩
        · rw [List.length_map, List.length_map]
          exact small1000 (Nat.le_trans (List.length_take_le' _ _) hz)
        · rw [upd_same, List.take_add_one, hn, List.map_append, List.map_append]
          rfl
      · rw [List.length_map, List.take_length] at hD
        refine ⟨D, _, rfl, SqL.of hD, _, rfl, ?_⟩
        have eall : ((r.map fun n => decide (0 ≤ n ∧ n ≤ 6)).all id) = r.all (fun n => decide (0 ≤ n ∧ n ≤ 6)) := by
          rw [List.all_map]
          rfl
        rw [eall]
        refine ite2 (fun c2 => ?_) (fun c2 => ?_)
        · refine ⟨.ref a, rfl, a, r, rfl, SqT.of (sm _ _ ha), by omega, fun mx hmx hmax => ?_⟩
          refine ⟨mx, 0, rfl, rfl, ?_⟩
          have e : decide ((0 : Int) < mx) = okRow g r := by
            unfold okRow
            rw [decide_eq_true hl, c2, Bool.true_and, Bool.true_and]
            by_cases z : 0 < mx
            · rw [decide_eq_true z, any_pos.mpr ⟨mx, hmx, z⟩]
            · rw [decide_eq_false z]
              cases y : r.any (fun n => decide (0 < n)) with
              | false => rfl
              | true =>
                obtain ⟨n, hn, h0⟩ := any_pos.mp y
                have := hmax n hn
                omega
          have q1 := q H' sm
          rw [← e] at q1
          exact q1
        · have e : okRow g r = false := by
            unfold okRow
            rw [Bool.eq_false_iff.mpr c2, Bool.false_and, Bool.and_false]
          have q1 := q H' sm
          rw [e] at q1
          exact q1
    · have e : okRow g r = false := by
        unfold okRow
        rw [decide_eq_false (fun z => c1 (decide_eq_true (by rw [z]))), Bool.false_and]
      have q1 := q H (Same.refl _)
      rw [e] at q1
      exact q1
/-! ### look_lot, goods_of -/
def spLook (C : Addr) : Sp := fun vs H Q E => ∃ (p : Addr) (ll : List (List Int)), vs = [.ref p] ∧ LotAt H p ll ∧ ll.length ≤ 100 ∧ (∀ r ∈ ll, r.length ≤ 100) ∧
  (flaw ll = none → ∀ H', Same H H' → Q .non H') ∧ ∀ k, flaw ll = some k → Refd C "kind" "bad lot" (.int k) H E
/-- BadLot as it stands: its class, its __init__ -/
structure BadTxt (P : Program) (w : World) (K : PySem.W.Frag) (mg : Str → Option Value) (base : Heap) (x : Str) (C : Addr) (f wd : Str) : Prop where
  c2 : Cls2 K C f
  gC : mg x = some (.ref C)
  ini : ∃ (fI : Addr) (fd : FuncData), PySem.W.findIn K (.ref C) "__init__" = some (some (.ref fI)) ∧ PySem.W.typeIn K (.ref fI) = some (.type "function") ∧
    FnOk P w K mg base CX0 1 fI fd ["self", f] (spInit2 C f wd) ∧ Binds K fd ["self", f] []
theorem ok_look {f : Addr} {fd : FuncData} {C : Addr} (F : Fun K "look_lot" "look_lot" sLook f fd) (B : Bl mg) (M : Consts mg) (T : BadTxt P w K mg base "BadLot" C "kind" "bad lot") (CH : Cal P w K mg base CX0 1 "is_hold" ["hold", "goods"] spIsHold) :
    FnOk P w K mg base (L2.CX P w) 3 f fd ["lot"] (spLook C) := by
  obtain ⟨t5, m5⟩ := M.kinds
  obtain ⟨t3, m3⟩ := M.goods
  obtain ⟨fH, fdH, GH, gH, kH, bH⟩ := CH.ex
  obtain ⟨fI, fdI, iC, tI, GI, bI⟩ := T.ini
  refine F.okX scLk (fun vs H Q E h => ?_) (fun cdv A outer s H vs Q E hr h => ?_)
  · obtain ⟨p, ll, rfl, _⟩ := h
    rfl
  · obtain ⟨p, ll, rfl, ⟨as, hp, hR⟩, hz, hz2, q0, q1⟩ := h
    have hlen := hR.len
    refine ⟨_, pss_cons (ps_if (PW.pt (pw_or (pt_not (pt_chain op_le op_le pe_int (pe_callB call_len_seq (by rfl) B.len PySem.boot_len (pa_cons (pv 0) pa_nil)) (pe_glob (v := .int 5) rfl m5 ⟨_, rfl⟩)))
          (pw_or1 (pt_not (pt_chain op_le op_le pe_int (pe_callB call_len_seq (by rfl) B.len PySem.boot_len (pa_cons (pe_ix ix_tup (pv 0) pe_int (fun _ _ => rfl)) pa_nil)) (pe_glob (v := .int 3) rfl m3 ⟨_, rfl⟩))))))
          (pss_one (ps_raise rfl (takes_of rfl rfl rfl rfl) (pmk_oex T.c2.ox iC tI GI hr bI .nil pass0 (by rfl) T.gC (pa_cons (pe_un un_neg pe_int) pa_nil)))) pss_nil)
      (pss_one (ps_for (passes_of rfl) rfl (pi_enumT (by rfl) B.enumerate (pa_cons (pv 0) pa_nil)) (pg_tup rfl (pgs_cons (pg_name (i := 1) scLk.nd rfl (.inl rfl)) (pgs_cons (pg_name (i := 2) scLk.nd rfl (.inl rfl)) pgs_nil)))
        (pss_one (ps_if (pt_not (pt_val (pe_call GH (hr.mono (by decide)) (by rfl) gH kH bH .nil pass0 (pa_cons (pv 2) (pa_cons (pe_callB call_len_seq (by rfl) B.len PySem.boot_len (pa_cons (pe_ix ix_tup (pv 0) pe_int (fun _ _ => rfl)) pa_nil)) pa_nil)))))
          (pss_one (ps_raise rfl (takes_of rfl rfl rfl rfl) (pmk_oex T.c2.ox iC tI GI hr bI .nil pass0 (by rfl) T.gC (pa_cons (pv 1) pa_nil)))) pss_nil)))), ?_⟩
    have sP : SqT K H p (as.map V.ref) := SqT.of hp
    refine ⟨.ref p, rfl, p, _, rfl, .inr sP, 1, _, rfl, rfl, _, rfl, chainI ?_⟩
    rw [List.length_map, hlen]
    refine ite2 (fun c1 => iteT ?_) (fun c1 => ?_)
    · have e : flaw ll = some (-1) := by
        unfold flaw
        rw [if_neg (fun z => ?_)]
        simp at c1
        omega
      exact ⟨1, rfl, mk_refd (q1 _ e)⟩
    · have c1' : 1 ≤ ll.length ∧ ll.length ≤ 5 := by
        simp at c1
        omega
      obtain ⟨a0, ha0, hh0, hw⟩ := hR.head c1'.1
      have at0 : atI (as.map V.ref) 0 = some (.ref a0) := atI_nat (j := 0) (by rw [List.getElem?_map, ha0]; rfl)
      refine ⟨.ref p, rfl, p, _, 0, .ref a0, rfl, rfl, sP, at0, a0, _, rfl, .inr (SqT.of hh0), 1, _, rfl, rfl, _, rfl, chainI ?_⟩
      rw [List.length_map, hw]
      refine ite2 (fun c2 => ?_) (fun c2 => ?_)
      · have e : flaw ll = some (-1) := by
          unfold flaw
          rw [if_neg (fun z => ?_)]
          simp at c2
          omega
        exact ⟨1, rfl, mk_refd (q1 _ e)⟩
      · have c2' : 1 ≤ width ll ∧ width ll ≤ 3 := by
          simp at c2
          omega
        have eF : flaw ll = flawIn (width ll) ll := by
          unfold flaw
          rw [if_pos ⟨c1'.1, c1'.2, c2'.1, c2'.2⟩]
        refine ⟨.ref p, rfl, p, _, rfl, sP, ?_⟩
        refine ⟨fun i m σ H' => i + m = as.length ∧ Same H H' ∧ (∃ y1 y2, σ = [some (.ref p), y1, y2]) ∧ ∀ (j : Nat) (r' : List Int), j < i → ll[j]? = some r' → okRow (width ll) r' = true,
          ⟨as.length, by omega, Same.refl _, ⟨none, none, rfl⟩, fun j r' hj => absurd hj (Nat.not_lt_zero j)⟩, fun i m σ H' hW => ?_⟩
        obtain ⟨em, sm, ⟨y1, y2, rfl⟩, ih⟩ := hW
        have sP' : SqT K H' p (as.map V.ref) := SqT.of (sm _ _ hp)
        by_cases hi : i < as.length
        · have hai : as[i]? = some as[i] := List.getElem?_eq_getElem hi
          obtain ⟨r, hr1, hr2⟩ := hR.at hai
          have g1 : (as.map V.ref)[i]? = some (.ref as[i]) := by rw [List.getElem?_map, hai]; rfl
          refine .inr ⟨⟨_, _, sP', g1⟩, fun σ' H2 => Same H H2 ∧ (∃ y1 y2, σ' = [some (.ref p), y1, y2]) ∧ okRow (width ll) r = true, fun σ' H2 hN => ?_, fun x H2 hy => ?_⟩
          · obtain ⟨s2, hσ, hk⟩ := hN
            refine ⟨m - 1, by omega, by omega, s2, hσ, fun j r' hj hjr => ?_⟩
            by_cases hji : j < i
            · exact ih j r' hji hjr
            · have e : j = i := by omega
              subst e
              rw [hr1] at hjr
              cases hjr
              exact hk
          · obtain ⟨T2, x2, rfl, nT, rfl, f2⟩ := hy
            have ex2 : x2 = .ref as[i] := Option.some.inj ((f2 _ sP').symm.trans g1)
            subst ex2
            have s3 : Same H (upd H' T2 (.tup [.int (i : Nat), .ref as[i]])) := sm.trans (same_new nT)
            refine ⟨T2, _, rfl, SqT.of upd_same, rfl, _, _, rfl, _, _, rfl, rfl, ?_⟩
            refine ⟨.ref as[i], rfl, .ref p, rfl, p, _, 0, .ref a0, rfl, rfl, SqT.of (s3 _ _ hp), at0, a0, _, rfl, .inr (SqT.of (s3 _ _ hh0)), as[i], width ll, r, ?_, s3 _ _ hr2, Nat.le_trans (hz2 r (List.mem_of_getElem? hr1)) (by decide), c2'.1, fun H4 s4 => ⟨_, rfl, ?_⟩⟩
            · rw [List.length_map, hw]
              rfl
            · refine ite2 (fun d1 => ?_) (fun d1 => ?_)
              · have hb : okRow (width ll) r = false := by
                  cases e : okRow (width ll) r with
                  | false => rfl
                  | true => rw [e] at d1; cases d1
                refine ⟨_, rfl, mk_refd ?_⟩
                exact (q1 _ (eF.trans (flawIn_at hr1 hb ih))).same (s3.trans s4)
              · refine ⟨s3.trans s4, ⟨_, _, rfl⟩, ?_⟩
                cases e : okRow (width ll) r with
                | true => rfl
                | false => rw [e] at d1; exact absurd rfl d1
        · refine .inl ⟨⟨_, sP', ?_⟩, ?_⟩
          · rw [List.length_map]
            omega
          · exact q0 (eF.trans (flawIn_none fun j r' hj => ih j r' (by omega))) H' sm
def spGoods (C : Addr) : Sp := fun vs H Q E => ∃ (p : Addr) (ll : List (List Int)), vs = [.ref p] ∧ LotAt H p ll ∧ ll.length ≤ 100 ∧ (∀ r ∈ ll, r.length ≤ 100) ∧
  (flaw ll = none → ∀ H', Same H H' → Q (.int (width ll)) H') ∧ ∀ k, flaw ll = some k → Refd C "kind" "bad lot" (.int k) H E
theorem flaw_ok {ll : List (List Int)} (h : flaw ll = none) : 1 ≤ ll.length ∧ ll.length ≤ 5 ∧ 1 ≤ width ll ∧ width ll ≤ 3 := by
  unfold flaw at h
  by_cases c : 1 ≤ ll.length ∧ ll.length ≤ 5 ∧ 1 ≤ width ll ∧ width ll ≤ 3
  · exact c
  · rw [if_neg c] at h
    cases h
theorem ok_goods {f : Addr} {fd : FuncData} {C : Addr} (F : Fun K "goods_of" "goods_of" sGoods f fd) (B : Bl mg) (CL : Cal P w K mg base (L2.CX P w) 3 "look_lot" ["lot"] (spLook C)) :
    FnOk P w K mg base (L2.CX P w) 4 f fd ["lot"] (spGoods C) := by
  obtain ⟨fL, fdL, GL, gL, kL, bL⟩ := CL.ex
  refine F.okX scGo (fun vs H Q E h => ?_) (fun cdv A outer s H vs Q E hr h => ?_)
  · obtain ⟨p, ll, rfl, _⟩ := h
    rfl
  · obtain ⟨p, ll, rfl, ⟨as, hp, hR⟩, hz, hz2, q0, q1⟩ := h
    refine ⟨_, pss_cons (ps_expr (pe_call GL hr (by rfl) gL kL bL .nil (passes_call (takes_of rfl rfl rfl rfl) (fun _ _ _ _ h => h)) (pa_cons (pv 0) pa_nil)))
      (pss_one (ps_ret (pe_callB call_len_seq (by rfl) B.len PySem.boot_len (pa_cons (pe_ix ix_tup (pv 0) pe_int (fun _ _ => rfl)) pa_nil)))), ?_⟩
    refine ⟨.ref p, rfl, p, ll, rfl, ⟨as, hp, hR⟩, hz, hz2, fun e H' sm => ?_, q1⟩
    obtain ⟨a0, ha0, hh0, hw⟩ := hR.head (flaw_ok e).1
    have at0 : atI (as.map V.ref) 0 = some (.ref a0) := atI_nat (j := 0) (by rw [List.getElem?_map, ha0]; rfl)
    refine ⟨.ref p, rfl, p, _, 0, .ref a0, rfl, rfl, SqT.of (sm _ _ hp), at0, a0, _, rfl, .inr (SqT.of (sm _ _ hh0)), ?_⟩
    have q2 := q0 e H' sm
    rw [← hw] at q2
    rw [List.length_map]
    exact q2
end
end HL

namespace HL
open PySem PySem.Spec PyProof.Rows L2
open C8 (pss_cut)
/-! ### tuples cut and joined -/
theorem sz1000 {n : Nat} (h : n ≤ 1000) : n ≤ sizeLine := Nat.le_of_lt (small1000 h)
theorem cat_read {K : PySem.W.Frag} {H : Hp} {a b : Addr} {xs ys : List V} {Q : VK} (ha : H a = some (.tup xs)) (hb : H b = some (.tup ys)) (hz : xs.length + ys.length ≤ 1000)
    (q : ∀ p H', Same H H' → H' p = some (.tup (xs ++ ys)) → Q (.ref p) H') : rCatA K (.ref a) (.ref b) H Q := by
  refine ⟨a, b, xs, ys, rfl, rfl, SqT.of ha, SqT.of hb, sz1000 hz, fun e => ?_, fun _ e => ?_, fun _ _ p np => q p _ (same_new np) upd_same⟩
  · subst e
    exact q b H (Same.refl _) hb
  · subst e
    exact q a H (Same.refl _) (by rw [List.append_nil]; exact ha)
theorem slice_read {K : PySem.W.Frag} {H : Hp} {a : Addr} {xs : List V} {lo hi : Option Int} {Q : VK} (ha : H a = some (.tup xs)) (q : ∀ p H', Same H H' → H' p = some (.tup (cutV xs lo hi)) → Q (.ref p) H') : rSlA K (.ref a) lo hi H Q := by
  refine ⟨a, xs, rfl, SqT.of ha, fun e => ?_, fun _ p np => q p _ (same_new np) upd_same⟩
  refine q a H (Same.refl _) ?_
  unfold cutV
  rw [e.1, e.2, List.drop_zero, Nat.sub_zero, List.take_length]
  exact ha
theorem cut_ex (L : Nat) (lo hi : Option Int) : ∃ n m : Nat, ∀ {α : Type} (f : α → V) (l : List α), l.length = L → cutV (l.map f) lo hi = ((l.drop n).take m).map f :=
  ⟨HT.sIx L 0 lo, HT.sIx L L hi - HT.sIx L 0 lo, fun f l h => by
    unfold cutV
    rw [List.length_map, h, List.map_take, List.map_drop]⟩
/-- a tuple of ints, a tuple of rows -/
def IntsAt (H : Hp) (p : Addr) (ns : List Int) : Prop := H p = some (.tup (ns.map V.int))
def RowsAt (H : Hp) (p : Addr) (as : List Addr) (ll : List (List Int)) : Prop := H p = some (.tup (as.map V.ref)) ∧ Rows H as ll
theorem IntsAt.same {H H' : Hp} {p : Addr} {ns : List Int} (h : IntsAt H p ns) (s : Same H H') : IntsAt H' p ns := s _ _ h
theorem RowsAt.same {H H' : Hp} {p : Addr} {as : List Addr} {ll : List (List Int)} (h : RowsAt H p as ll) (s : Same H H') : RowsAt H' p as ll := ⟨s _ _ h.1, h.2.same s⟩
theorem RowsAt.kp {H H' : Hp} {f c p : Addr} {as : List Addr} {ll : List (List Int)} (h : RowsAt H p as ll) (F : FeedAt c H f) (k : Kp f H H') : RowsAt H' p as ll := ⟨k _ _ (F.tup h.1) h.1, h.2.kp F k⟩
theorem RowsAt.lot {H : Hp} {p : Addr} {as : List Addr} {ll : List (List Int)} (h : RowsAt H p as ll) : LotAt H p ll := ⟨as, h.1, h.2⟩
theorem IntsAt.kp {H H' : Hp} {f c p : Addr} {ns : List Int} (h : IntsAt H p ns) (F : FeedAt c H f) (k : Kp f H H') : IntsAt H' p ns := k _ _ (F.tup h) h
theorem cat_ints {K : PySem.W.Frag} {H : Hp} {a b : Addr} {xs ys : List Int} {Q : VK} (ha : IntsAt H a xs) (hb : IntsAt H b ys) (hz : xs.length + ys.length ≤ 1000)
    (q : ∀ p H', Same H H' → IntsAt H' p (xs ++ ys) → Q (.ref p) H') : rCatA K (.ref a) (.ref b) H Q :=
  cat_read ha hb (by rw [List.length_map, List.length_map]; exact hz) fun p H' s h => q p H' s (by unfold IntsAt; rw [List.map_append]; exact h)
theorem cat_rows {K : PySem.W.Frag} {H : Hp} {a b : Addr} {as bs : List Addr} {ll mm : List (List Int)} {Q : VK} (ha : RowsAt H a as ll) (hb : RowsAt H b bs mm) (hz : ll.length + mm.length ≤ 1000)
    (q : ∀ p H', Same H H' → RowsAt H' p (as ++ bs) (ll ++ mm) → Q (.ref p) H') : rCatA K (.ref a) (.ref b) H Q :=
  cat_read ha.1 hb.1 (by rw [List.length_map, List.length_map, ha.2.len, hb.2.len]; exact hz) fun p H' s h => q p H' s ⟨by rw [List.map_append]; exact h, (ha.2.same s).app (hb.2.same s)⟩
theorem slice_ints {K : PySem.W.Frag} {H : Hp} {a : Addr} {xs : List Int} {lo hi : Option Int} {Q : VK} (ha : IntsAt H a xs) (q : ∀ p H' n m, Same H H' → IntsAt H' p ((xs.drop n).take m) → Q (.ref p) H') : rSlA K (.ref a) lo hi H Q := by
  obtain ⟨n, m, e⟩ := cut_ex xs.length lo hi
  exact slice_read ha fun p H' s h => q p H' n m s (by unfold IntsAt; rw [← e V.int xs rfl]; exact h)
theorem slice_rows {K : PySem.W.Frag} {H : Hp} {a : Addr} {as : List Addr} {ll : List (List Int)} {lo hi : Option Int} {Q : VK} (ha : RowsAt H a as ll)
    (q : ∀ p H' n m, Same H H' → RowsAt H' p ((as.drop n).take m) ((ll.drop n).take m) → Q (.ref p) H') : rSlA K (.ref a) lo hi H Q := by
  obtain ⟨n, m, e⟩ := cut_ex as.length lo hi
  exact slice_read ha.1 fun p H' s h => q p H' n m s ⟨by rw [← e V.ref as rfl]; exact h, ((ha.2.same s).drop n).take m⟩
theorem len_cut {α : Type} (l : List α) (n m : Nat) : ((l.drop n).take m).length ≤ l.length := by
  rw [List.length_take, List.length_drop]
  omega
theorem mem_cut {α : Type} {l : List α} {n m : Nat} {x : α} (h : x ∈ (l.drop n).take m) : x ∈ l := List.mem_of_mem_drop (List.mem_of_mem_take h)
theorem one_row {H : Hp} {t r : Addr} {row : List Int} (h : IntsAt H r row) (nt : H t = none) : RowsAt (upd H t (.tup [.ref r])) t [r] [row] := ⟨upd_same, ⟨(same_new nt) _ _ h, True.intro⟩⟩
theorem sz_1 (v : V) : [v].length ≤ sizeLine := by
  show 1 ≤ sizeLine
  decide
theorem noPart {σ : L2.St} {H : Hp} {Q : Option Int → Hp → Prop} (h : Q none H) : tNoPart σ H Q := h
end HL

namespace HL
open PySem PySem.Spec PyProof.Rows L2
/-! sorted(t), t a tuple of ints -/
def rSortedTup (K : PySem.W.Frag) : List V → Hp → VK → Prop := fun vs H Q => ∃ (a : Addr) (ns : List Int), vs = [V.ref a] ∧ SqT K H a (ns.map V.int) ∧ ∀ (ns' : List Int) (p : Addr), ns'.Perm ns → ns'.Pairwise (· ≤ ·) → H p = none → Q (.ref p) (upd H p (.lst (ns'.map V.int)))
theorem cr_sortedTup {X : Cx} : CallR X (.builtin "sorted") (rSortedTup X.K) := by
  intro pins s σ H vs us Q I r h
  obtain ⟨a, ns, rfl, hs, q⟩ := h
  obtain ⟨its, rv, ⟨o, ho, hc, n, hd⟩, hz⟩ := I.tuple hs
  rw [Vals.ref1 r]
  have hi := rv.ints
  have hz' : its.length ≤ sizeLine := by rw [← rv.length]; exact hz
  refine Calls.call_function_entry kind_sorted plain_sorted entry_sorted (args_sorted1 _) ?_
  unfold Builtin.«sorted»
  refine wpAny_bind (m := checkCount "sorted" 1 1 _) (wpAny_pure (wpAny_bind (wpAny_collect_seq (T := "tuple") a (.inr rfl) ho hc hd (fun h1 k1 => ?_) (by rw [List.size_toArray]; exact hz'))))
  rw [List.toList_toArray]
  refine wpAny_bind (wpAny_newList ?_ hz')
  have at1 : (h1.push (seqObj "list" its.toArray 0)).get? h1.objs.size = some (seqObj "list" its.toArray 0) := Heap.get?_push_size _ rfl
  have I1 := I.kept (t' := s.toks) k1
  refine wpAny_bind (wpAny_holding (wpAny_call_entry slot_list_sort ⟨_, at1, rfl⟩ entry_list_sort (SrtO.list_sort_ord SrtO.swo_int at1 hz' (fun h2 => SrtO.ints_sortable hi h2) fun out p1 p2 => ⟨_, rfl, ?_⟩) (args_list_sort _)))
  refine wpAny_pure ⟨_, rfl, ?_⟩
  obtain ⟨j1, j2, j3⟩ := SrtO.ints_out hi p1 p2
  obtain ⟨ep, he⟩ := sortedHeap_at (vs := its) (out := out.toArray) at1
  have hl : ((out.map SrtO.iv).map V.int).length ≤ sizeLine := by
    rw [List.length_map, j2.length_eq]
    rw [List.length_map] at hz
    exact hz
  refine ⟨.ref _, upd H h1.objs.size (.lst ((out.map SrtO.iv).map V.int)), I1.laid (t' := s.toks) (fun b o e => ?_) (Nat.le_refl _) ⟨hl, out, ep, vals_of_ints j1, he⟩, rfl, q _ _ j2 j3 (I1.hok.fresh (Nat.le_refl _))⟩
  have lb : b < h1.objs.size := Heap.lt_size e
  rw [sortedHeap_old (Nat.ne_of_lt lb) (by rw [Heap.size_push]; exact Nat.lt_succ_of_lt lb)]
  exact Heap.get?_push_of_some _ e
end HL

namespace HL
open PySem PySem.Spec PyProof.Rows L2
open C8 (pss_cut)
abbrev leT : List Value := [.type "LookupError", .type "Exception", .type "BaseException", .type "object"]
abbrev veT : List Value := [.type "ValueError", .type "Exception", .type "BaseException", .type "object"]
abbrev sNoGoodInit : Stmt := inClass (topS 4) 0
theorem scNG : FnScope ["self", "good"] ["self", "good"] (defScope sNoGoodInit) := ⟨rfl, rfl, rfl, by decide +kernel, rfl, by decide +kernel, by decide +kernel⟩
structure Cls2B (K : PySem.W.Frag) (C : Addr) (f : Str) : Prop where
  ox : OexB K C "LookupError.__new__" leT
  noW : PySem.W.findIn K (.ref C) "word" = some none
  noF : PySem.W.findIn K (.ref C) f = some none
section
variable {P : Program} {w : World} {K : PySem.W.Frag} {mg : Str → Option Value} {base : Heap}
theorem ok_noGoodInit {f : Addr} {fd : FuncData} {k : Nat} {C : Addr} (F : Fun K "__init__" "NoGood.__init__" sNoGoodInit f fd) (T : Cls2B K C "good") : FnOk P w K mg base CX0 (k + 1) f fd ["self", "good"] (spInit2 C "good" "no good") := by
  refine F.ok scNG (fun vs H Q E h => ?_) (fun cdv A outer s H vs Q E hr h => ?_)
  · obtain ⟨a, v, rfl, _⟩ := h
    rfl
  · obtain ⟨a, v, rfl, ha, q⟩ := h
    refine ⟨_, pss_cons (ps_ostB (nid := "LookupError.__new__") (bmB := leT) (pv 0) pe_str) (pss_one (ps_ostB (nid := "LookupError.__new__") (bmB := leT) (pv 0) (pv 1))), ?_⟩
    refine ⟨.ref a, rfl, a, C, rfl, T.ox, T.noW, .inl ⟨ha, fun dx nd ne => ?_⟩⟩
    refine ⟨v, rfl, .ref a, rfl, a, C, rfl, T.ox, T.noF, .inr ⟨dx, _, upd_same, ?_, (by show 1 ≤ 900; decide), q dx nd ne⟩⟩
    rw [upd_ne ne, upd_same]
structure BadTxtB (P : Program) (w : World) (K : PySem.W.Frag) (mg : Str → Option Value) (base : Heap) (x : Str) (C : Addr) (f wd : Str) : Prop where
  c2 : Cls2B K C f
  gC : mg x = some (.ref C)
  ini : ∃ (fI : Addr) (fd : FuncData), PySem.W.findIn K (.ref C) "__init__" = some (some (.ref fI)) ∧ PySem.W.typeIn K (.ref fI) = some (.type "function") ∧
    FnOk P w K mg base CX0 1 fI fd ["self", f] (spInit2 C f wd) ∧ Binds K fd ["self", f] []
theorem dp_ints {H : Hp} : ∀ ns : List Int, DpAll K H (ns.map V.int) (ns.map PyData.int)
  | [] => .nil
  | n :: ns => .cons (.int n) (dp_ints ns)
end
/-! ### slices just so -/
theorem cut_to {xs : List V} {n : Nat} : cutV xs none (some (n : Int)) = xs.take n := by
  unfold cutV
  rw [HT.sIx_none, HT.sIx_nat, List.drop_zero, Nat.sub_zero]
  by_cases h : n ≤ xs.length
  · rw [Nat.min_eq_left h]
  · rw [Nat.min_eq_right (by omega), List.take_length, List.take_of_length_le (by omega)]
theorem cut_from {xs : List V} {n : Nat} : cutV xs (some (n : Int)) none = xs.drop n := by
  unfold cutV
  rw [HT.sIx_none, HT.sIx_nat]
  by_cases h : n ≤ xs.length
  · rw [Nat.min_eq_left h]
    exact List.take_of_length_le (by rw [List.length_drop]; omega)
  · rw [Nat.min_eq_right (by omega), List.drop_eq_nil_of_le (by omega), List.drop_eq_nil_of_le (by omega), List.take_nil]
theorem slice_to {K : PySem.W.Frag} {H : Hp} {a : Addr} {as : List Addr} {ll : List (List Int)} {n : Nat} {Q : VK} (ha : RowsAt H a as ll) (q : ∀ p H', Same H H' → RowsAt H' p (as.take n) (ll.take n) → Q (.ref p) H') : rSlA K (.ref a) none (some (n : Int)) H Q :=
  slice_read ha.1 fun p H' s h => q p H' s ⟨by rw [cut_to, ← List.map_take] at h; exact h, (ha.2.same s).take n⟩
theorem slice_from {K : PySem.W.Frag} {H : Hp} {a : Addr} {as : List Addr} {ll : List (List Int)} {n : Nat} {Q : VK} (ha : RowsAt H a as ll) (q : ∀ p H', Same H H' → RowsAt H' p (as.drop n) (ll.drop n) → Q (.ref p) H') : rSlA K (.ref a) (some (n : Int)) none H Q :=
  slice_read ha.1 fun p H' s h => q p H' s ⟨by rw [cut_from, ← List.map_drop] at h; exact h, (ha.2.same s).drop n⟩
theorem flaw_rows {ll : List (List Int)} (h : flaw ll = none) : ∀ r ∈ ll, r.length = width ll ∧ ∀ n ∈ r, 0 ≤ n ∧ n ≤ 6 := by
  have h0 := flaw_ok h
  unfold flaw at h
  rw [if_pos ⟨h0.1, h0.2.1, h0.2.2.1, h0.2.2.2⟩] at h
  unfold flawIn at h
  have e : ll.findIdx? (fun r => !okRow (width ll) r) = none := by
    cases z : ll.findIdx? (fun r => !okRow (width ll) r) with
    | none => rfl
    | some i => rw [z] at h; cases h
  intro r hr
  have := List.findIdx?_eq_none_iff.mp e r hr
  have b : okRow (width ll) r = true := by
    cases z : okRow (width ll) r with
    | true => rfl
    | false => rw [z] at this; cases this
  obtain ⟨o1, o2, _⟩ := okRow_iff.mp b
  exact ⟨o1, o2⟩
theorem nilA {σ : L2.St} {H : Hp} {Q : List V → Hp → Prop} (h : Q [] H) : tNil σ H Q := h
/-- i <= x <= e, e any expression -/
theorem chainE {i j L : Int} {te : TE} {σ : L2.St} {H : Hp} {Q : Bool → Hp → Prop} (hte : ∀ Q' : VK, Q' (.int j) H → te σ H Q') (h : Q (decide (i ≤ L ∧ L ≤ j)) H) :
    if decide (i ≤ L) = true then te σ H (fun v H4 => rI0 (fun i j => V.bl (decide (i ≤ j))) (.int L) v H4 (fun x H' => ∃ k, x = .bl k ∧ Q k H')) else ∃ k, V.bl false = V.bl k ∧ Q k H := by
  by_cases c : i ≤ L
  · rw [if_pos (decide_eq_true c)]
    refine hte _ ⟨L, j, rfl, rfl, _, rfl, ?_⟩
    rw [show decide (L ≤ j) = decide (i ≤ L ∧ L ≤ j) by simp [c]]
    exact h
  · rw [if_neg (fun z => c (of_decide_eq_true z))]
    refine ⟨false, rfl, ?_⟩
    rw [show false = decide (i ≤ L ∧ L ≤ j) by simp [c]]
    exact h
/-- i <= x < e -/
theorem chainF {i j L : Int} {te : TE} {σ : L2.St} {H : Hp} {Q : Bool → Hp → Prop} (hte : ∀ Q' : VK, Q' (.int j) H → te σ H Q') (h : Q (decide (i ≤ L ∧ L < j)) H) :
    if decide (i ≤ L) = true then te σ H (fun v H4 => rI0 (fun i j => V.bl (decide (i < j))) (.int L) v H4 (fun x H' => ∃ k, x = .bl k ∧ Q k H')) else ∃ k, V.bl false = V.bl k ∧ Q k H := by
  by_cases c : i ≤ L
  · rw [if_pos (decide_eq_true c)]
    refine hte _ ⟨L, j, rfl, rfl, _, rfl, ?_⟩
    rw [show decide (L < j) = decide (i ≤ L ∧ L < j) by simp [c]]
    exact h
  · rw [if_neg (fun z => c (of_decide_eq_true z))]
    refine ⟨false, rfl, ?_⟩
    rw [show false = decide (i ≤ L ∧ L < j) by simp [c]]
    exact h
def rgI (L : Nat) : List Int := (List.range L).map fun (i : Nat) => (i : Int)
theorem rgI_len (L : Nat) : (rgI L).length = L := by unfold rgI; rw [List.length_map, List.length_range]
theorem rgV_eq (L : Nat) : rgV 0 (L : Int) = (rgI L).map V.int := by
  unfold rgV rgI
  rw [List.map_map, show ((L : Int) - 0).toNat = L by omega]
  refine List.map_congr_left fun i _ => ?_
  show V.int (0 + (i : Int)) = V.int (i : Int)
  rw [Int.zero_add]
theorem rgI_mem {L : Nat} {k : Int} (h : k ∈ rgI L) : 0 ≤ k ∧ k < (L : Nat) := by
  obtain ⟨i, hi, rfl⟩ := List.mem_map.mp h
  have := List.mem_range.mp hi
  omega
theorem rgI_sorted (L : Nat) : (rgI L).Pairwise (· ≤ ·) := by
  unfold rgI
  refine List.pairwise_map.mpr ((List.pairwise_lt_range (n := L)).imp fun {a b} h => ?_)
  omega
theorem eqvAll_ints : ∀ xs ys : List Int, PyData.eqvAll (xs.map PyData.int) (ys.map PyData.int) = decide (xs = ys)
  | [], [] => by simp [PyData.eqvAll]
  | [], y :: ys => by simp [PyData.eqvAll]
  | x :: xs, [] => by simp [PyData.eqvAll]
  | x :: xs, y :: ys => by
    have ih := eqvAll_ints xs ys
    simp [PyData.eqvAll, PyData.eqv, ih]
    rfl
theorem eqv_list (xs ys : List Int) : PyData.eqv (.list (xs.map PyData.int)) (.list (ys.map PyData.int)) = decide (xs = ys) := by
  have := eqvAll_ints xs ys
  simp [PyData.eqv, this]
theorem shaped_lst (ns : List Int) : SeqAt.shaped (.list (ns.map PyData.int)) = true := by
  simp [SeqAt.shaped, PyData.canLay0, PyData.depth, PySem.W.ke_canLayAll0, PySem.W.ke_depthAll]
theorem scShuf : FnScope ["_law_feed_here", "_law_row", "_law_left", "_law_one"] ["_law_feed_here", "_law_row"] (defScope sShuf) := ⟨rfl, rfl, rfl, by decide +kernel, rfl, by decide +kernel, by decide +kernel⟩
theorem erase_map {l : List Int} : ∀ {k : Nat}, (l.map V.int).eraseIdx k = (l.eraseIdx k).map V.int := by
  induction l with
  | nil => intro k; rfl
  | cons x l ih =>
    intro k
    cases k with
    | zero => rfl
    | succ k =>
      show V.int x :: (l.map V.int).eraseIdx k = V.int x :: (l.eraseIdx k).map V.int
      rw [ih]
theorem erase_perm {l : List Int} : ∀ {k : Nat} {y : Int}, l[k]? = some y → (y :: l.eraseIdx k).Perm l := by
  induction l with
  | nil => intro k y h; simp at h
  | cons x l ih =>
    intro k y h
    cases k with
    | zero =>
      have e : x = y := Option.some.inj h
      rw [e]
      exact List.Perm.refl _
    | succ k =>
      have h' : l[k]? = some y := h
      exact (List.Perm.swap x y _).trans ((ih h').cons x)
section
variable {P : Program} {w : World} {K : PySem.W.Frag} {mg : Str → Option Value} {base : Heap}
def spShuf : Sp := fun vs H Q _ => ∃ (f c r : Addr) (ks : List Int), vs = [.ref f, .ref r] ∧ FeedAt c H f ∧ H r = some (.lst (ks.map V.int)) ∧ r ≠ f ∧ ks.length ≤ 100 ∧
  ∀ H' l (ks' : List Int), Kp f H H' → FeedAt c H' f → H' l = some (.lst (ks'.map V.int)) → ks'.Perm ks → Q (.ref l) H'
theorem ok_shuf {f : Addr} {fd : FuncData} (F : Fun K "_law_shuffled" "_law_shuffled" sShuf f fd) (B : Bl mg) (CD : Cal P w K mg base CX0 1 "_law_draw" ["_law_feed_here", "_law_many"] spDraw) :
    FnOk P w K mg base CX0 2 f fd ["_law_feed_here", "_law_row"] spShuf := by
  obtain ⟨fD, fdD, GD, gD, kD, bD⟩ := CD.ex
  refine F.ok scShuf (fun vs H Q E h => ?_) (fun cdv A outer s H vs Q E hr h => ?_)
  · obtain ⟨a, c, r, ks, rfl, _⟩ := h
    rfl
  · obtain ⟨a, c, r, ks, rfl, Fd, hR, hra, hz, q⟩ := h
    refine ⟨_, pss_cons (ps_set (i := 2) scShuf.nd rfl (.inr rfl) (pe_callTy call_list_of (by rfl) B.list (by decide +kernel) (pa_cons (pv 1) pa_nil)))
      (pss_one (ps_ret (pe_lc (own := [("_law_one", 3)]) (g := gName 3) (tt := tYes) (te := tBM K "list" rPopAt (tVar 2) (tCons (tCall spDraw [] E0 (tCons (tVar 0) (tCons (tCB (fun xs H Q => ∃ p ys, xs = [V.ref p] ∧ (SqL K H p ys ∨ SqT K H p ys) ∧ Q (.int (ys.length : Nat)) H) (tCons (tVar 2) tNil)) tNil))) tNil)) rfl scShuf.nd (pi_list (pv 1))
        (blkOk_by (own := [("_law_one", 3)]) (N := ["_law_feed_here", "_law_row", "_law_left", "_law_one"]) (sc := defScope sShuf) (by decide +kernel)) (fun _ _ _ _ _ => pg_name (i := 3) scShuf.nd rfl (Or.inl rfl)) (fun _ _ _ _ _ => pts_nil)
        (fun _ _ _ _ _ => pe_bm (T := "list") (r := rPopAt) PySem.F.plainAttrs_list PySem.F.slot_list_pop PySem.F.type_list_pop mt_popAt (pv 2) (pa_cons (pe_call GD hr (by rfl) gD kD bD .nil pass0 (pa_cons (pv 0) (pa_cons (pe_callB call_len_seq (by rfl) B.len PySem.boot_len (pa_cons (pv 2) pa_nil)) pa_nil))) pa_nil))))), ?_⟩
    refine ⟨.ref r, rfl, r, _, rfl, .inl (SqL.of hR), fun lf nlf => ?_⟩
    have s1 := same_new (o := .lst (ks.map V.int)) nlf
    have nl1 : lf ≠ a := Fd.ne nlf
    have nl2 : lf ≠ c := Fd.neC nlf
    refine ⟨.ref r, rfl, r, rfl, ⟨_, SqL.of (s1 _ _ hR)⟩, fun D nD => ?_⟩
    have nD0 : H D = none := s1.free nD
    have nDl : D ≠ lf := fun e => by rw [e, upd_same] at nD; cases nD
    have nD1 : D ≠ a := Fd.ne nD0
    have nD2 : D ≠ c := Fd.neC nD0
    have s2 := same_new (o := .lst []) nD
    refine lc_list (K := K) (a := r) (xs := ks.map V.int) (fun i H' => Kp a H H' ∧ FeedAt c H' a ∧ ∃ ds rest : List Int, H' D = some (.lst (ds.map V.int)) ∧ H' lf = some (.lst (rest.map V.int)) ∧ ds.length = i ∧ (ds ++ rest).Perm ks)
      ⟨Same.kp (s1.trans s2), (Fd.same s1).same s2, [], ks, upd_same, s2 _ _ upd_same, rfl, List.Perm.refl _⟩ (fun i H' _ ⟨kp, _⟩ => SqL.of (kp _ _ hra hR)) (fun i x H' hx ⟨kp, F', ds, rest, hD, hlf, hl, pm⟩ => ?_) (fun H' ⟨kp, F', ds, rest, hD, hlf, hl, pm⟩ => ?_)
    · have hi : i < ks.length := by
        have := (List.getElem?_eq_some_iff.mp hx).1
        rw [List.length_map] at this
        exact this
      have hlen : ds.length + rest.length = ks.length := by
        rw [← List.length_append]
        exact pm.length_eq
      refine ⟨rfl, yes (iteT ?_)⟩
      refine ⟨.ref lf, rfl, .inl ⟨rfl, _, SqL.of hlf⟩, .ref a, rfl, .ref lf, rfl, lf, _, rfl, .inl (SqL.of hlf), a, c, _, rfl, by rw [List.length_map]; omega, by rw [List.length_map]; omega, F', fun d H2 d0 d1 k2 F2 => ?_⟩
      rw [List.length_map] at d1
      have hd : rest[d.toNat]? = some (rest[d.toNat]'(by omega)) := List.getElem?_eq_getElem (by omega)
      have hlf2 := k2 _ _ nl1 hlf
      have hD2 := k2 _ _ nD1 hD
      refine ⟨lf, _, d, d.toNat, .int (rest[d.toNat]'(by omega)), rfl, rfl, hlf2, by omega, by omega, seqIndex_of d0 (by rw [List.length_map]; exact d1), by rw [List.getElem?_map, hd]; rfl, ?_⟩
      rw [erase_map]
      refine ⟨_, (by rw [upd_ne nDl]; exact hD2), ?_, ?_, ?_, ds ++ [rest[d.toNat]'(by omega)], rest.eraseIdx d.toNat, ?_, ?_, ?_, ?_⟩
      · rw [List.length_map]
        exact small1000 (by omega)
      · exact ((kp.trans k2).late nlf).late nD0
      · exact (F2.put nl1 nl2).put nD1 nD2
      · rw [upd_same, List.map_append]
        rfl
      · rw [upd_ne (Ne.symm nDl), upd_same]
      · rw [List.length_append, hl]
        rfl
      · rw [List.append_assoc]
        exact ((erase_perm hd).append_left ds).trans pm
    · rw [List.length_map] at hl
      have hr0 : rest = [] := by
        have := pm.length_eq
        rw [List.length_append] at this
        exact List.length_eq_zero_iff.mp (by omega)
      rw [hr0, List.append_nil] at pm
      exact q H' D ds kp F' hD pm
end
end HL

namespace HL
open PySem PySem.Spec PyProof.Rows L2
open C8 (pss_cut)
/-! ### rows made of rows -/
/-- what a comprehension over a lot has made by its turn i -/
def PvR (H : Hp) (D : Addr) (f : List Int → List Int) (ll : List (List Int)) (i : Nat) (H' : Hp) : Prop := Same H H' ∧ ∃ bs : List Addr, H' D = some (.lst (bs.map V.ref)) ∧ Rows H' bs ((ll.take i).map f)
theorem PvR.start {H : Hp} {D : Addr} {f : List Int → List Int} {ll : List (List Int)} (nD : H D = none) : PvR H D f ll 0 (upd H D (.lst [])) := ⟨same_new nD, [], upd_same, by rw [List.take_zero]; exact True.intro⟩
/-- a list of a heap is written: tuples stay -/
theorem Rows.lput {H : Hp} {D : Addr} {xs ys : List V} {bs : List Addr} {ll : List (List Int)} (R : Rows H bs ll) (hD : H D = some (.lst xs)) : Rows (upd H D (.lst ys)) bs ll := R.mono fun b zs e => by
  rw [upd_ne (ne_of e hD (fun z => by cases z))]
  exact e
theorem row_turn {n : Nat} {te : TE} {σ : L2.St} {H : Hp} {D p : Addr} {as : List Addr} {ll : List (List Int)} (f : List Int → List Int) (R : RowsAt H p as ll) (nD : H D = none) (hz : ll.length ≤ 100) (hw : ∀ v, wipe ((wipe σ [n]).set n (some v)) [n] = wipe σ [n])
    (hte : ∀ (b : Addr) (r : List Int) (H' : Hp) (Q' : VK), r ∈ ll → Same H H' → IntsAt H' b r → (∀ t H'', Same H' H'' → IntsAt H'' t (f r) → Q' (.ref t) H'') → te ((wipe σ [n]).set n (some (.ref b))) H' Q')
    (i : Nat) (x : V) (H' : Hp) (hx : (as.map V.ref)[i]? = some x) (hP : PvR H D f ll i H') :
    gName n x (wipe σ [n]) H' fun σ2 H2 => wipe σ2 [n] = wipe σ [n] ∧ tYes σ2 H2 fun b H3 => if b = true then te σ2 H3 (fun y H4 => ∃ acc, H4 D = some (.lst acc) ∧ acc.length < sizeLine ∧ PvR H D f ll (i + 1) (upd H4 D (.lst (acc ++ [y])))) else PvR H D f ll (i + 1) H3 := by
  obtain ⟨sm, bs, hD, hB⟩ := hP
  obtain ⟨b, hb, rfl⟩ : ∃ b, as[i]? = some b ∧ x = V.ref b := by
    rw [List.getElem?_map] at hx
    cases e : as[i]? with
    | none => rw [e] at hx; cases hx
    | some b => rw [e] at hx; exact ⟨b, rfl, (Option.some.inj hx).symm⟩
  obtain ⟨r, hr1, hr2⟩ := R.2.at hb
  refine ⟨hw _, yes (iteT (hte b r H' _ (List.mem_of_getElem? hr1) sm (sm _ _ hr2) fun t H'' s2 ht => ?_))⟩
  have hD2 := s2 _ _ hD
  have hl : ((ll.take i).map f).length ≤ 100 := by
    rw [List.length_map, List.length_take]
    omega
  refine ⟨_, hD2, ?_, same_late (sm.trans s2) nD, bs ++ [t], ?_, ?_⟩
  · rw [List.length_map, hB.len]
    exact small1000 (by omega)
  · rw [upd_same, List.map_append]
    rfl
  · rw [List.take_add_one, hr1, List.map_append]
    exact ((hB.same s2).lput hD2).app ⟨by rw [upd_ne (ne_of ht hD2 (fun z => by cases z))]; exact ht, True.intro⟩
theorem PvR.fin {H H' : Hp} {D : Addr} {f : List Int → List Int} {as : List Addr} {ll : List (List Int)} (hl : as.length = ll.length) (h : PvR H D f ll (as.map V.ref).length H') : Same H H' ∧ ∃ bs : List Addr, H' D = some (.lst (bs.map V.ref)) ∧ Rows H' bs (ll.map f) := by
  obtain ⟨s, bs, h1, h2⟩ := h
  rw [List.length_map, hl, List.take_length] at h2
  exact ⟨s, bs, h1, h2⟩
/-! ### seen -/
def seenRow (gs r : List Int) : List Int := gs.map fun g => r.getD g.toNat 0
def seenLot (gs : List Int) (ll : List (List Int)) : List (List Int) := ll.map (seenRow gs)
def oddB (w : Nat) (gs : List Int) (i : Nat) : Bool := !(decide (0 ≤ gs.getD i 0 ∧ gs.getD i 0 < (w : Int))) || (gs.take i).contains (gs.getD i 0)
def odds (w : Nat) (gs : List Int) (n : Nat) : List Nat := (List.range n).filter (oddB w gs)
theorem odds_first {w : Nat} {gs : List Int} {i n : Nat} (hi : i < n) (h : oddB w gs i = true) (ha : ∀ j, j < i → oddB w gs j = false) : (odds w gs n).head? = some i := by
  unfold odds
  rw [List.head?_filter, List.find?_range_eq_some]
  exact ⟨h, List.mem_range.mpr hi, fun j hj => by rw [ha j hj]; rfl⟩
theorem odds_none {w : Nat} {gs : List Int} {n : Nat} (ha : ∀ j, j < n → oddB w gs j = false) : odds w gs n = [] := by
  unfold odds
  refine List.filter_eq_nil_iff.mpr fun j hj => ?_
  rw [ha j (List.mem_range.mp hj)]
  decide
theorem odds_step {w : Nat} {gs : List Int} {n : Nat} : odds w gs (n + 1) = odds w gs n ++ (if oddB w gs n = true then [n] else []) := by
  unfold odds
  rw [List.range_succ, List.filter_append]
  congr 1
  by_cases h : oddB w gs n = true
  · rw [if_pos h, List.filter_cons_of_pos h]
    rfl
  · rw [if_neg h, List.filter_cons_of_neg h]
    rfl
theorem odds_in {w : Nat} {gs : List Int} (h : odds w gs gs.length = []) : ∀ g ∈ gs, 0 ≤ g ∧ g < (w : Int) := fun g hg => by
  obtain ⟨i, hi, rfl⟩ := List.mem_iff_getElem.mp hg
  have := List.filter_eq_nil_iff.mp h i (List.mem_range.mpr hi)
  unfold oddB at this
  rw [List.getD_eq_getElem?_getD, List.getElem?_eq_getElem hi] at this
  by_cases c : 0 ≤ gs[i] ∧ gs[i] < (w : Int)
  · exact c
  · exact absurd (by rw [show (some gs[i]).getD 0 = gs[i] from rfl, decide_eq_false c]; rfl) this
theorem inV_ints (g : Int) : ∀ xs : List Int, inV (.int g) (xs.map V.int) = xs.contains g
  | [] => rfl
  | x :: xs => by
    have ih := inV_ints g xs
    unfold inV at ih ⊢
    rw [List.map_cons, List.any_cons, ih, List.contains_cons]
    congr 1
    show (x == g) = (g == x)
    exact Bool.eq_iff_iff.mpr ⟨fun h => beq_iff_eq.mpr (beq_iff_eq.mp h).symm, fun h => beq_iff_eq.mpr (beq_iff_eq.mp h).symm⟩
theorem flat_ints : ∀ xs : List Int, (xs.map V.int).all flatV = true
  | [] => rfl
  | x :: xs => by rw [List.map_cons, List.all_cons, flat_ints xs]; rfl
theorem slice_toI {K : PySem.W.Frag} {H : Hp} {a : Addr} {xs : List Int} {n : Nat} {Q : VK} (ha : IntsAt H a xs) (q : ∀ p H', Same H H' → IntsAt H' p (xs.take n) → Q (.ref p) H') : rSlA K (.ref a) none (some (n : Int)) H Q :=
  slice_read ha fun p H' s h => q p H' s (by unfold IntsAt; rw [cut_to, ← List.map_take] at h; exact h)
theorem map_len {f : List Int → List Int} {ll : List (List Int)} {m : Nat} (h : ∀ r ∈ ll, (f r).length ≤ m) : ∀ r ∈ ll.map f, r.length ≤ m := fun r hr => by
  obtain ⟨r', h1, rfl⟩ := List.mem_map.mp hr
  exact h r' h1
theorem at_int {ns : List Int} {i : Int} (h0 : 0 ≤ i) (h1 : i < (ns.length : Nat)) : atI (ns.map V.int) i = some (.int (ns.getD i.toNat 0)) := by
  have hl : i.toNat < ns.length := by omega
  have e : ((i.toNat : Nat) : Int) = i := by omega
  refine (congrArg (atI (ns.map V.int)) e.symm).trans (atI_nat (j := i.toNat) ?_)
  rw [List.getElem?_map, List.getD_eq_getElem?_getD, List.getElem?_eq_getElem hl]
  rfl
abbrev NS : List Str := ["lot", "goods", "many", "place", "good", "fresh", "hold"]
theorem scSe : FnScope NS ["lot", "goods"] (defScope sSeen) := ⟨rfl, rfl, rfl, by decide +kernel, rfl, by decide +kernel, by decide +kernel⟩
abbrev scSeO : Scope := { kind := .function, names := [(".0", .local), ("hold", .cell), ("tuple", .globalImplicit), ("goods", .cell)], isGenerator := false, isCoroutine := false }
section
variable {P : Program} {w : World} {K : PySem.W.Frag} {mg : Str → Option Value} {base : Heap}
def spSeen (C CG : Addr) : Sp := fun vs H Q E => ∃ (p g : Addr) (as : List Addr) (ll : List (List Int)) (gs : List Int), vs = [.ref p, .ref g] ∧ RowsAt H p as ll ∧ IntsAt H g gs ∧ gs.length ≤ 100 ∧ flaw ll = none ∧
  (∀ i, (odds (width ll) gs gs.length).head? = some i → Refd CG "good" "no good" (.int (gs.getD i 0)) H E) ∧
  (odds (width ll) gs gs.length = [] → (∀ k, flaw (seenLot gs ll) = some k → Refd C "kind" "bad lot" (.int k) H E) ∧ (flaw (seenLot gs ll) = none → ∀ H' p' as', Same H H' → RowsAt H' p' as' (seenLot gs ll) → Q (.ref p') H'))
theorem ok_seen {f : Addr} {fd : FuncData} {C CG : Addr} (F : Fun K "seen" "seen" sSeen f fd) (B : Bl mg) (TG : BadTxtB P w K mg base "NoGood" CG "good" "no good") (CL : Cal P w K mg base (L2.CX P w) 3 "look_lot" ["lot"] (spLook C)) (CGo : Cal P w K mg base (L2.CX P w) 4 "goods_of" ["lot"] (spGoods C)) :
    FnOk P w K mg base (L2.CX P w) 5 f fd ["lot", "goods"] (spSeen C CG) := by
  obtain ⟨fL, fdL, GL, gL, kL, bL⟩ := CL.ex
  obtain ⟨fGO, fdGO, GGO, gGO, kGO, bGO⟩ := CGo.ex
  obtain ⟨fI, fdI, iC, tI, GI, bI⟩ := TG.ini
  refine F.okX scSe (fun vs H Q E h => ?_) (fun cdv A outer s H vs Q E hr h => ?_)
  · obtain ⟨p, g, as, ll, gs, rfl, _⟩ := h
    rfl
  · obtain ⟨p, g, as, ll, gs, rfl, hL, hG, hgz, ef, q1, q2⟩ := h
    refine ⟨_, (pss_cons (ps_set (i := 2) scSe.nd rfl (.inl rfl) (pe_call GGO hr (by rfl) gGO kGO bGO .nil (passes_call (takes_of rfl rfl rfl rfl) (fun _ _ _ _ h => h)) (pa_cons (pv 0) pa_nil)))
      (pss_cons (ps_for (passes_of rfl) rfl (pi_enumT (by rfl) B.enumerate (pa_cons (pv 1) pa_nil)) (pg_tup rfl (pgs_cons (pg_name (i := 3) scSe.nd rfl (.inl rfl)) (pgs_cons (pg_name (i := 4) scSe.nd rfl (.inl rfl)) pgs_nil)))
      (pss_one (ps_if (PW.pt (pw_or (pt_not (pt_chain op_le op_lt pe_int (pv 4) (pv 2))) (pw_or1 (pt_cmpR op_in_seq (pv 4) (pe_slice sl_tupA (pv 1) po_none (po_some (pv 3))) (by rfl))))) (pss_one (ps_raise rfl (takes_of rfl rfl rfl rfl) (pmk_oexB PySem.F.excBase_LookupError TG.c2.ox iC tI GI (hr.mono (by decide)) bI pass0 (by rfl) TG.gC (pa_cons (pv 4) pa_nil)))) pss_nil)))
      (pss_cons (ps_set (i := 5) scSe.nd rfl (.inl rfl) (pe_callTy call_tuple_of (by rfl) B.tuple (by decide +kernel) (pa_cons (pe_lc (own := [("hold", 6)]) (g := gName 6) (tt := tYes) (te := tCB (fun xs H Q => ∃ p ys, xs = [V.ref p] ∧ ((SqL K H p ys ∧ ∀ l, H l = none → Q (.ref l) (upd H l (.tup ys))) ∨ (SqT K H p ys ∧ Q (.ref p) H))) (tCons (tLc (iTup K (tVar 1)) (gName 4) tYes (tOp (rIxT K) (tVar 6) (tVar 4)) [4]) tNil)) rfl scSe.nd (pi_tup (pv 0))
        (blkOk_by (own := [("hold", 6)]) (N := NS) (sc := defScope sSeen) (by decide +kernel)) (fun _ _ _ _ _ => pg_name (i := 6) scSe.nd rfl (Or.inr rfl)) (fun _ _ _ _ _ => pts_nil)
        (fun _ _ _ _ _ => (pe_callTy call_tuple_of (by rfl) B.tuple (by decide +kernel) (pa_cons (pe_lc (own := [("good", 4)]) (g := gName 4) (tt := tYes) rfl scSe.nd (pi_tup (pv 1))
        (blkOk_by (own := [("good", 4)]) (N := NS) (sc := scSeO) (by decide +kernel)) (fun _ _ _ _ _ => pg_name (i := 4) scSe.nd rfl (Or.inl rfl)) (fun _ _ _ _ _ => pts_nil)
        (fun _ _ _ _ _ => (pe_ix (r := rIxT K) ix_tup (pv 6) (pv 4) (fun _ _ => rfl)))) pa_nil)))) pa_nil)))
      (pss_cons (ps_expr (pe_call GL (hr.mono (by decide)) (by rfl) gL kL bL .nil (passes_call (takes_of rfl rfl rfl rfl) (fun _ _ _ _ h => h)) (pa_cons (pv 5) pa_nil)))
      (pss_one (ps_ret (pv 5))))))), ?_⟩
    have hok := flaw_ok ef
    have hrows := flaw_rows ef
    have hlen := hL.2.len
    have hL100 : ∀ r ∈ ll, r.length ≤ 100 := fun r hr => by have := (hrows r hr).1; omega
    refine ⟨.ref p, rfl, p, ll, rfl, hL.lot, by omega, hL100, fun _ H1 s1 => ?_, fun k hk => by rw [ef] at hk; cases hk⟩
    have hL1 := hL.same s1
    have hG1 := hG.same s1
    refine ⟨.ref g, rfl, g, _, rfl, SqT.of hG1, ?_⟩
    refine ⟨fun i m σ H' => i + m = gs.length ∧ Same H1 H' ∧ (∃ y3 y4, σ = [some (.ref p), some (.ref g), some (.int (width ll : Nat)), y3, y4, none, none]) ∧ ∀ j, j < i → oddB (width ll) gs j = false,
      ⟨gs.length, by omega, Same.refl _, ⟨none, none, rfl⟩, fun j hj => absurd hj (Nat.not_lt_zero j)⟩, fun i m σ H' hW => ?_⟩
    obtain ⟨em, sm, ⟨y3, y4, rfl⟩, ih⟩ := hW
    have hG' := hG1.same sm
    by_cases hi : i < gs.length
    · have hgi : gs[i]? = some gs[i] := List.getElem?_eq_getElem hi
      have g1 : (gs.map V.int)[i]? = some (.int gs[i]) := by rw [List.getElem?_map, hgi]; rfl
      have eg : gs.getD i 0 = gs[i] := by rw [List.getD_eq_getElem?_getD, hgi]; rfl
      refine .inr ⟨⟨_, _, SqT.of hG', g1⟩, fun σ' H2 => Same H1 H2 ∧ (∃ y3 y4, σ' = [some (.ref p), some (.ref g), some (.int (width ll : Nat)), y3, y4, none, none]) ∧ oddB (width ll) gs i = false, fun σ' H2 hN => ?_, fun x H2 hy => ?_⟩
      · obtain ⟨s2, hσ, hk⟩ := hN
        refine ⟨m - 1, by omega, by omega, s2, hσ, fun j hj => ?_⟩
        by_cases hji : j < i
        · exact ih j hji
        · have e : j = i := by omega
          rw [e]
          exact hk
      · obtain ⟨T2, x2, rfl, nT, rfl, f2⟩ := hy
        have ex2 : x2 = .int gs[i] := Option.some.inj ((f2 _ (SqT.of hG')).symm.trans g1)
        subst ex2
        have s3 : Same H1 (upd H' T2 (.tup [.int (i : Nat), .int gs[i]])) := sm.trans (same_new nT)
        have raise : oddB (width ll) gs i = true → ∀ H4, Same H1 H4 → Refd CG "good" "no good" (.int gs[i]) H4 E := fun ho H4 s4 => by
          have := q1 i (odds_first hi ho ih)
          rw [eg] at this
          exact this.same (s1.trans s4)
        refine ⟨T2, _, rfl, SqT.of upd_same, rfl, _, _, rfl, _, _, rfl, rfl, ?_⟩
        refine ⟨.int gs[i], rfl, 0, gs[i], rfl, rfl, _, rfl, chainF (j := (width ll : Nat)) (fun Q' hq => ⟨_, rfl, hq⟩) ?_⟩
        refine ite2 (fun c => iteT ?_) (fun c => ?_)
        · have c' : ¬ (0 ≤ gs[i] ∧ gs[i] < (width ll : Int)) := fun z => by rw [decide_eq_true z] at c; cases c
          refine ⟨.int gs[i], rfl, mk_refd (raise ?_ _ s3)⟩
          unfold oddB
          rw [eg, decide_eq_false c']
          rfl
        · have c' : 0 ≤ gs[i] ∧ gs[i] < (width ll : Int) := by
            by_cases z : 0 ≤ gs[i] ∧ gs[i] < (width ll : Int)
            · exact z
            · rw [decide_eq_false z] at c
              exact absurd rfl c
          refine ⟨.int gs[i], rfl, .ref g, rfl, .int (i : Nat), rfl, (i : Nat), rfl, slice_toI (hG1.same s3) fun z H4 s4 hz => ?_⟩
          refine ⟨z, _, rfl, .inr (SqT.of hz), rfl, flat_ints _, _, rfl, ?_⟩
          rw [if_neg (by decide), inV_ints]
          have eo : oddB (width ll) gs i = (gs.take i).contains gs[i] := by
            unfold oddB
            rw [eg, decide_eq_true c']
            rfl
          refine ite2 (fun d => ?_) (fun d => ?_)
          · exact ⟨.int gs[i], rfl, mk_refd (raise (eo.trans d) _ (s3.trans s4))⟩
          · exact ⟨s3.trans s4, ⟨_, _, rfl⟩, eo.trans (Bool.eq_false_iff.mpr d)⟩
    · refine .inl ⟨⟨_, SqT.of hG', by rw [List.length_map]; omega⟩, ?_⟩
      have hod : odds (width ll) gs gs.length = [] := odds_none fun j hj => ih j (by omega)
      obtain ⟨q3, q4⟩ := q2 hod
      have hin := odds_in hod
      have s1' := s1.trans sm
      have hL2 := hL.same s1'
      refine ⟨.ref p, rfl, p, rfl, ⟨_, SqT.of hL2.1⟩, fun D nD => ?_⟩
      refine lc_tup (K := K) (a := p) (xs := as.map V.ref) (PvR H' D (seenRow gs) ll) (PvR.start nD) (fun i H2 _ hP => SqT.of (hL2.same hP.1).1) (row_turn (seenRow gs) hL2 nD (by omega) (fun _ => rfl) fun b r H2 Q' hr s2 hb hq => ?_) (fun H2 hP => ?_)
      · have rl := (hrows r hr).1
        have hG2 := hG'.same s2
        refine ⟨.ref g, rfl, g, rfl, ⟨_, SqT.of hG2⟩, fun D2 nD2 => ?_⟩
        refine lc_tup (K := K) (a := g) (xs := gs.map V.int) (fun j H3 => Same H2 H3 ∧ H3 D2 = some (.lst ((seenRow (gs.take j) r).map V.int))) ⟨same_new nD2, upd_same⟩ (fun j H3 _ hP => SqT.of (hG2.same hP.1)) (fun j x H3 hx ⟨s3, hD2⟩ => ?_) (fun H3 ⟨s3, hD2⟩ => ?_)
        · obtain ⟨z, hz, rfl⟩ : ∃ n, gs[j]? = some n ∧ x = V.int n := by
            rw [List.getElem?_map] at hx
            cases e : gs[j]? with
            | none => rw [e] at hx; cases hx
            | some n => rw [e] at hx; exact ⟨n, rfl, (Option.some.inj hx).symm⟩
          have hzz := hin z (List.mem_of_getElem? hz)
          refine ⟨rfl, yes (iteT ?_)⟩
          refine ⟨.ref b, rfl, .int z, rfl, b, _, z, _, rfl, rfl, SqT.of (hb.same s3), at_int hzz.1 (by omega), _, hD2, ?_, same_late s3 nD2, ?_⟩
          · rw [List.length_map]
            unfold seenRow
            rw [List.length_map, List.length_take]
            exact small1000 (by omega)
          · rw [upd_same, List.take_add_one, hz]
            unfold seenRow
            rw [List.map_append, List.map_append]
            rfl
        · rw [List.length_map, List.take_length] at hD2
          exact ⟨D2, _, rfl, .inl ⟨SqL.of hD2, fun t nt => hq t _ (s3.trans (same_new nt)) upd_same⟩⟩
      · obtain ⟨s2, bs, hD, hB⟩ := hP.fin hlen
        refine ⟨D, _, rfl, .inl ⟨SqL.of hD, fun t nt => ?_⟩⟩
        have R3 : RowsAt (upd H2 t (.tup (bs.map V.ref))) t bs (seenLot gs ll) := ⟨upd_same, hB.same (same_new nt)⟩
        have s3 := s1'.trans (s2.trans (same_new (o := .tup (bs.map V.ref)) nt))
        refine ⟨.ref t, rfl, t, _, rfl, R3.lot, by unfold seenLot; rw [List.length_map]; omega, map_len fun r _ => by unfold seenRow; rw [List.length_map]; exact hgz, fun e H4 s4 => ⟨.ref t, rfl, q4 e H4 t bs (s3.trans s4) (R3.same s4)⟩, fun k hk => (q3 k hk).same s3⟩
end
end HL

namespace HL
open PySem PySem.Spec PyProof.Rows L2
open C8 (pss_cut)
/-! ### beside -/
def zeros (n : Nat) : List Int := List.replicate n 0
def bes (l1 l2 : List (List Int)) : List (List Int) := l1.map (fun r => r ++ zeros (width l2)) ++ l2.map (fun r => zeros (width l1) ++ r)
theorem rep0_read {K : PySem.W.Frag} {H : Hp} {t : Addr} {n : Nat} {Q : VK} (ht : H t = some (.tup [.int 0])) (n1 : 1 ≤ n) (n2 : n ≤ 1000) (q : ∀ p H', Same H H' → IntsAt H' p (zeros n) → Q (.ref p) H') : rRepA K (.ref t) (.int (n : Nat)) H Q := by
  refine ⟨t, (n : Nat), [.int 0], rfl, rfl, SqT.of ht, by decide, by omega, by omega, by decide, fun e => ?_, fun e p np => ?_⟩
  · have : n = 1 := by omega
    subst this
    exact q t H (Same.refl _) ht
  · refine q p _ (same_new np) ?_
    unfold IntsAt
    rw [upd_same, rep_one, Int.toNat_natCast]
    unfold zeros
    rw [List.map_replicate]
theorem width_map {f : List Int → List Int} {ll : List (List Int)} (h : 1 ≤ ll.length) : width (ll.map f) = (f (ll.headD [])).length := by
  cases ll with
  | nil => simp at h
  | cons r rs => rfl
theorem bes_len {l1 l2 : List (List Int)} : (bes l1 l2).length = l1.length + l2.length := by
  unfold bes
  rw [List.length_append, List.length_map, List.length_map]
theorem bes_mem {l1 l2 : List (List Int)} {r : List Int} (h : r ∈ bes l1 l2) : (∃ r1 ∈ l1, r = r1 ++ zeros (width l2)) ∨ ∃ r2 ∈ l2, r = zeros (width l1) ++ r2 := by
  rcases List.mem_append.mp h with h | h
  · obtain ⟨r1, h1, rfl⟩ := List.mem_map.mp h
    exact .inl ⟨r1, h1, rfl⟩
  · obtain ⟨r1, h1, rfl⟩ := List.mem_map.mp h
    exact .inr ⟨r1, h1, rfl⟩
theorem zeros_len (n : Nat) : (zeros n).length = n := List.length_replicate
theorem bes_row {l1 l2 : List (List Int)} (h1 : ∀ r ∈ l1, r.length = width l1 ∧ ∀ n ∈ r, 0 ≤ n ∧ n ≤ 6) (h2 : ∀ r ∈ l2, r.length = width l2 ∧ ∀ n ∈ r, 0 ≤ n ∧ n ≤ 6) : ∀ r ∈ bes l1 l2, r.length = width l1 + width l2 ∧ ∀ n ∈ r, 0 ≤ n ∧ n ≤ 6 := fun r hr => by
  rcases bes_mem hr with ⟨r1, m, rfl⟩ | ⟨r1, m, rfl⟩
  · refine ⟨by rw [List.length_append, zeros_len, (h1 r1 m).1], fun n hn => ?_⟩
    rcases List.mem_append.mp hn with h | h
    · exact (h1 r1 m).2 n h
    · rw [List.eq_of_mem_replicate h]
      decide
  · refine ⟨by rw [List.length_append, zeros_len, (h2 r1 m).1], fun n hn => ?_⟩
    rcases List.mem_append.mp hn with h | h
    · rw [List.eq_of_mem_replicate h]
      decide
    · exact (h2 r1 m).2 n h
theorem bes_width {l1 l2 : List (List Int)} (hl : 1 ≤ l1.length) (h1 : ∀ r ∈ l1, r.length = width l1 ∧ ∀ n ∈ r, 0 ≤ n ∧ n ≤ 6) : width (bes l1 l2) = width l1 + width l2 := by
  cases l1 with
  | nil => simp at hl
  | cons r rs =>
    show (r ++ zeros (width l2)).length = _
    rw [List.length_append, zeros_len, (h1 r List.mem_cons_self).1]
abbrev NB : List Str := ["one", "other", "left", "right", "kinds", "fresh", "hold"]
theorem scBs : FnScope NB ["one", "other"] (defScope sBeside) := ⟨rfl, rfl, rfl, by decide +kernel, rfl, by decide +kernel, by decide +kernel⟩
abbrev NBL : List Str := ["_law_one", "_law_other", "_law_left", "_law_hold_here"]
theorem scBL : FnScope NBL ["_law_one", "_law_other"] (defScope sBesL) := ⟨rfl, rfl, rfl, by decide +kernel, rfl, by decide +kernel, by decide +kernel⟩
section
variable {P : Program} {w : World} {K : PySem.W.Frag} {mg : Str → Option Value} {base : Heap}
def spBeside (C : Addr) : Sp := fun vs H Q E => ∃ (p1 p2 : Addr) (as1 as2 : List Addr) (l1 l2 : List (List Int)), vs = [.ref p1, .ref p2] ∧ RowsAt H p1 as1 l1 ∧ RowsAt H p2 as2 l2 ∧ flaw l1 = none ∧ flaw l2 = none ∧
  (∀ k, flaw (bes l1 l2) = some k → Refd C "kind" "bad lot" (.int k) H E) ∧ (flaw (bes l1 l2) = none → ∀ H' p' as', Same H H' → RowsAt H' p' as' (bes l1 l2) → Q (.ref p') H')
theorem ok_beside {f : Addr} {fd : FuncData} {C : Addr} (F : Fun K "beside" "beside" sBeside f fd) (B : Bl mg) (CL : Cal P w K mg base (L2.CX P w) 3 "look_lot" ["lot"] (spLook C)) (CGo : Cal P w K mg base (L2.CX P w) 4 "goods_of" ["lot"] (spGoods C)) :
    FnOk P w K mg base (L2.CX P w) 5 f fd ["one", "other"] (spBeside C) := by
  obtain ⟨fL, fdL, GL, gL, kL, bL⟩ := CL.ex
  obtain ⟨fGO, fdGO, GGO, gGO, kGO, bGO⟩ := CGo.ex
  refine F.okX scBs (fun vs H Q E h => ?_) (fun cdv A outer s H vs Q E hr h => ?_)
  · obtain ⟨p1, p2, as1, as2, l1, l2, rfl, _⟩ := h
    rfl
  · obtain ⟨p1, p2, as1, as2, l1, l2, rfl, hL1, hL2, ef1, ef2, q3, q4⟩ := h
    refine ⟨_, (pss_cons (ps_set (i := 2) scBs.nd rfl (.inr rfl) (pe_call GGO hr (by rfl) gGO kGO bGO .nil (passes_call (takes_of rfl rfl rfl rfl) (fun _ _ _ _ h => h)) (pa_cons (pv 0) pa_nil)))
      (pss_cons (ps_set (i := 3) scBs.nd rfl (.inr rfl) (pe_call GGO hr (by rfl) gGO kGO bGO .nil (passes_call (takes_of rfl rfl rfl rfl) (fun _ _ _ _ h => h)) (pa_cons (pv 1) pa_nil)))
      (pss_cons (ps_set (i := 4) scBs.nd rfl (.inl rfl) (pe_op op_cat (pe_lc (own := [("hold", 6)]) (g := gName 6) (tt := tYes) (te := tOp (rCatA K) (tVar 6) (tOp (rRepA K) (tTup (tCons (tC (.int 0)) tNil)) (tVar 3))) rfl scBs.nd (pi_tup (pv 0))
        (blkOk_by (own := [("hold", 6)]) (N := NB) (sc := defScope sBeside) (by decide +kernel)) (fun _ _ _ _ _ => pg_name (i := 6) scBs.nd rfl (Or.inl rfl)) (fun _ _ _ _ _ => pts_nil)
        (fun _ _ _ _ _ => (pe_op op_catA (pv 6) (pe_op op_repA (pe_tup (pa_cons pe_int pa_nil)) (pv 3))))) (pe_lc (own := [("hold", 6)]) (g := gName 6) (tt := tYes) (te := tOp (rCatA K) (tOp (rRepA K) (tTup (tCons (tC (.int 0)) tNil)) (tVar 2)) (tVar 6)) rfl scBs.nd (pi_tup (pv 1))
        (blkOk_by (own := [("hold", 6)]) (N := NB) (sc := defScope sBeside) (by decide +kernel)) (fun _ _ _ _ _ => pg_name (i := 6) scBs.nd rfl (Or.inl rfl)) (fun _ _ _ _ _ => pts_nil)
        (fun _ _ _ _ _ => (pe_op op_catA (pe_op op_repA (pe_tup (pa_cons pe_int pa_nil)) (pv 2)) (pv 6))))))
      (pss_cons (ps_set (i := 5) scBs.nd rfl (.inl rfl) (pe_callTy call_tuple_of (by rfl) B.tuple (by decide +kernel) (pa_cons (pv 4) pa_nil)))
      (pss_cons (ps_expr (pe_call GL (hr.mono (by decide)) (by rfl) gL kL bL .nil (passes_call (takes_of rfl rfl rfl rfl) (fun _ _ _ _ h => h)) (pa_cons (pv 5) pa_nil)))
      (pss_one (ps_ret (pv 5)))))))), ?_⟩
    have hok1 := flaw_ok ef1
    have hok2 := flaw_ok ef2
    have hr1 := flaw_rows ef1
    have hr2 := flaw_rows ef2
    have hlen1 := hL1.2.len
    have hlen2 := hL2.2.len
    have hz1 : ∀ r ∈ l1, r.length ≤ 100 := fun r hr => by have := (hr1 r hr).1; omega
    have hz2 : ∀ r ∈ l2, r.length ≤ 100 := fun r hr => by have := (hr2 r hr).1; omega
    refine ⟨.ref p1, rfl, p1, l1, rfl, hL1.lot, by omega, hz1, fun _ H1 s1 => ?_, fun k hk => by rw [ef1] at hk; cases hk⟩
    refine ⟨.ref p2, rfl, p2, l2, rfl, (hL2.same s1).lot, by omega, hz2, fun _ H2 s2 => ?_, fun k hk => by rw [ef2] at hk; cases hk⟩
    have s12 := s1.trans s2
    have R1 := hL1.same s12
    have R2 := hL2.same s12
    refine ⟨.ref p1, rfl, p1, rfl, ⟨_, SqT.of R1.1⟩, fun D nD => ?_⟩
    refine lc_tup (K := K) (a := p1) (xs := as1.map V.ref) (PvR H2 D (fun r => r ++ zeros (width l2)) l1) (PvR.start nD) (fun i H' _ hP => SqT.of (R1.same hP.1).1) (row_turn _ R1 nD (by omega) (fun _ => rfl) fun b r H3 Q' hr s3 hb hq => ?_) (fun H3 hP => ?_)
    · refine ⟨.ref b, rfl, sz_1 _, fun t nt => ⟨.int (width l2 : Nat), rfl, ?_⟩⟩
      refine rep0_read upd_same (by omega) (by omega) fun z H4 s4 hz => ?_
      have s34 := (same_new nt).trans s4
      exact cat_ints (hb.same s34) hz (by rw [zeros_len]; have := hz1 r hr; omega) fun y H5 s5 hy => hq y H5 (s34.trans s5) hy
    obtain ⟨s3, bs, hD, hB⟩ := hP.fin hlen1
    have R2' := R2.same s3
    refine ⟨.ref p2, rfl, p2, rfl, ⟨_, SqT.of R2'.1⟩, fun D2 nD2 => ?_⟩
    refine lc_tup (K := K) (a := p2) (xs := as2.map V.ref) (PvR H3 D2 (fun r => zeros (width l1) ++ r) l2) (PvR.start nD2) (fun i H' _ hP => SqT.of (R2'.same hP.1).1) (row_turn _ R2' nD2 (by omega) (fun _ => rfl) fun b r H4 Q' hr s4 hb hq => ?_) (fun H4 hP => ?_)
    · refine ⟨sz_1 _, fun t nt => ⟨.int (width l1 : Nat), rfl, ?_⟩⟩
      refine rep0_read upd_same (by omega) (by omega) fun z H5 s5 hz => ?_
      have s45 := (same_new nt).trans s5
      exact ⟨.ref b, rfl, cat_ints hz (hb.same s45) (by rw [zeros_len]; have := hz2 r hr; omega) fun y H6 s6 hy => hq y H6 (s45.trans s6) hy⟩
    obtain ⟨s4, cs, hD2, hC⟩ := hP.fin hlen2
    have hbl := hB.len
    have hcl := hC.len
    rw [List.length_map] at hbl hcl
    refine ⟨D, D2, _, _, rfl, rfl, s4 _ _ hD, hD2, by rw [List.length_map, List.length_map]; exact sz1000 (by omega), fun l nl => ?_⟩
    have s5 := same_new (o := .lst (bs.map V.ref ++ cs.map V.ref)) nl
    refine ⟨.ref l, rfl, l, _, rfl, .inl ⟨SqL.of upd_same, fun t nt => ?_⟩⟩
    have s6 := same_new (o := .tup (bs.map V.ref ++ cs.map V.ref)) nt
    have R3 : RowsAt (upd (upd H4 l (.lst (bs.map V.ref ++ cs.map V.ref))) t (.tup (bs.map V.ref ++ cs.map V.ref))) t (bs ++ cs) (bes l1 l2) := ⟨by rw [upd_same, List.map_append], (((hB.same s4).same s5).same s6).app ((hC.same s5).same s6)⟩
    have s7 := s12.trans (s3.trans (s4.trans (s5.trans s6)))
    have hbr := bes_row hr1 hr2
    refine ⟨.ref t, rfl, t, _, rfl, R3.lot, by rw [bes_len]; omega, fun r hr => by have := (hbr r hr).1; omega, fun e H8 s8 => ⟨.ref t, rfl, q4 e H8 t _ (s7.trans s8) (R3.same s8)⟩, fun k hk => (q3 k hk).same s7⟩
/-! ### beside, by the law -/
def spBesL : Sp := fun vs H Q _ => ∃ (p1 p2 : Addr) (as1 as2 : List Addr) (l1 l2 : List (List Int)), vs = [.ref p1, .ref p2] ∧ RowsAt H p1 as1 l1 ∧ RowsAt H p2 as2 l2 ∧ flaw l1 = none ∧ flaw l2 = none ∧ ∀ H' p' as', Same H H' → RowsAt H' p' as' (bes l1 l2) → Q (.ref p') H'
theorem ok_besL {f : Addr} {fd : FuncData} (F : Fun K "_law_beside" "_law_beside" sBesL f fd) (B : Bl mg) (CN : Cal P w K mg base CX0 1 "_law_noughts" ["_law_many"] spNoughts) : FnOk P w K mg base CX0 2 f fd ["_law_one", "_law_other"] spBesL := by
  obtain ⟨fN, fdN, GN, gN, kN, bN⟩ := CN.ex
  refine F.ok scBL (fun vs H Q E h => ?_) (fun cdv A outer s H vs Q E hr h => ?_)
  · obtain ⟨p1, p2, as1, as2, l1, l2, rfl, _⟩ := h
    rfl
  · obtain ⟨p1, p2, as1, as2, l1, l2, rfl, R1, R2, ef1, ef2, q4⟩ := h
    have hok1 := flaw_ok ef1
    have hok2 := flaw_ok ef2
    have hr1 := flaw_rows ef1
    have hr2 := flaw_rows ef2
    have hlen1 := R1.2.len
    have hlen2 := R2.2.len
    refine ⟨_, (pss_cons (ps_setLc (i := 2) (own := [("_law_hold_here", 3)]) (g := gName 3) (tt := tYes) (te := tOp (rCatA K) (tVar 3) (tCall spNoughts [] E0 (tCons (tCB (fun xs H Q => ∃ p ys, xs = [V.ref p] ∧ (SqL K H p ys ∨ SqT K H p ys) ∧ Q (.int (ys.length : Nat)) H) (tCons (tOp (rIxT K) (tVar 1) (tC (.int 0))) tNil)) tNil))) rfl scBL.nd rfl rfl (sw_true rfl rfl rfl (by decide +kernel)) (pi_tup (pv 0))
        (blkOk_by (own := [("_law_hold_here", 3)]) (N := NBL) (sc := defScope sBesL) (by decide +kernel)) (fun _ _ _ _ _ => pg_name (i := 3) scBL.nd rfl (Or.inl rfl)) (fun _ _ _ _ _ => pts_nil)
        (fun _ _ _ _ _ => (pe_op op_catA (pv 3) (pe_call GN (hr.mono (by decide)) (by rfl) gN kN bN .nil pass0 (pa_cons (pe_callB call_len_seq (by rfl) B.len PySem.boot_len (pa_cons (pe_ix (r := rIxT K) ix_tup (pv 1) pe_int (fun _ _ => rfl)) pa_nil)) pa_nil)))))
      (pss_one (ps_ret (pe_callTy call_tuple_of (by rfl) B.tuple (by decide +kernel) (pa_cons (pe_op op_cat (pv 2) (pe_lc (own := [("_law_hold_here", 3)]) (g := gName 3) (tt := tYes) (te := tOp (rCatA K) (tCall spNoughts [] E0 (tCons (tCB (fun xs H Q => ∃ p ys, xs = [V.ref p] ∧ (SqL K H p ys ∨ SqT K H p ys) ∧ Q (.int (ys.length : Nat)) H) (tCons (tOp (rIxT K) (tVar 0) (tC (.int 0))) tNil)) tNil)) (tVar 3)) rfl scBL.nd (pi_tup (pv 1))
        (blkOk_by (own := [("_law_hold_here", 3)]) (N := NBL) (sc := defScope sBesL) (by decide +kernel)) (fun _ _ _ _ _ => pg_name (i := 3) scBL.nd rfl (Or.inl rfl)) (fun _ _ _ _ _ => pts_nil)
        (fun _ _ _ _ _ => (pe_op op_catA (pe_call GN (hr.mono (by decide)) (by rfl) gN kN bN .nil pass0 (pa_cons (pe_callB call_len_seq (by rfl) B.len PySem.boot_len (pa_cons (pe_ix (r := rIxT K) ix_tup (pv 0) pe_int (fun _ _ => rfl)) pa_nil)) pa_nil)) (pv 3))))) pa_nil))))), ?_⟩
    have head : ∀ {p : Addr} {as : List Addr} {ll : List (List Int)} {H' : Hp}, RowsAt H' p as ll → 1 ≤ ll.length → ∃ a0, atI (as.map V.ref) 0 = some (.ref a0) ∧ H' a0 = some (.tup ((ll.headD []).map V.int)) ∧ (ll.headD []).length = width ll := fun R hl => by
      obtain ⟨a0, h0, h1, h2⟩ := R.2.head hl
      exact ⟨a0, atI_nat (j := 0) (by rw [List.getElem?_map, h0]; rfl), h1, h2⟩
    refine ⟨.ref p1, rfl, p1, rfl, ⟨_, SqT.of R1.1⟩, fun D nD => ?_⟩
    refine lc_tup (K := K) (a := p1) (xs := as1.map V.ref) (PvR H D (fun r => r ++ zeros (width l2)) l1) (PvR.start nD) (fun i H' _ hP => SqT.of (R1.same hP.1).1) (row_turn _ R1 nD (by omega) (fun _ => rfl) fun b r H3 Q' hr s3 hb hq => ?_) (fun H3 hP => ?_)
    · obtain ⟨a0, e0, e1, e2⟩ := head (R2.same s3) hok2.1
      have hz := (hr1 r hr).1
      refine ⟨.ref b, rfl, .ref p2, rfl, p2, _, 0, .ref a0, rfl, rfl, SqT.of (R2.same s3).1, e0, a0, _, rfl, .inr (SqT.of e1), _, rfl, by rw [List.length_map, e2]; omega, by rw [List.length_map, e2]; omega, fun H4 z s4 _ hz4 => ?_⟩
      rw [List.length_map, e2, Int.toNat_natCast] at hz4
      exact cat_ints (ys := zeros (width l2)) (hb.same s4) hz4 (by rw [zeros_len]; omega) fun y H5 s5 hy => hq y H5 (s4.trans s5) hy
    obtain ⟨s3, bs, hD, hB⟩ := hP.fin hlen1
    have R1' := R1.same s3
    have R2' := R2.same s3
    refine ⟨.ref D, rfl, .ref p2, rfl, p2, rfl, ⟨_, SqT.of R2'.1⟩, fun D2 nD2 => ?_⟩
    refine lc_tup (K := K) (a := p2) (xs := as2.map V.ref) (PvR H3 D2 (fun r => zeros (width l1) ++ r) l2) (PvR.start nD2) (fun i H' _ hP => SqT.of (R2'.same hP.1).1) (row_turn _ R2' nD2 (by omega) (fun _ => rfl) fun b r H4 Q' hr s4 hb hq => ?_) (fun H4 hP => ?_)
    · obtain ⟨a0, e0, e1, e2⟩ := head (R1'.same s4) hok1.1
      have hz := (hr2 r hr).1
      refine ⟨.ref p1, rfl, p1, _, 0, .ref a0, rfl, rfl, SqT.of (R1'.same s4).1, e0, a0, _, rfl, .inr (SqT.of e1), _, rfl, by rw [List.length_map, e2]; omega, by rw [List.length_map, e2]; omega, fun H5 z s5 _ hz5 => ?_⟩
      rw [List.length_map, e2, Int.toNat_natCast] at hz5
      exact ⟨.ref b, rfl, cat_ints (xs := zeros (width l1)) hz5 (hb.same s5) (by rw [zeros_len]; omega) fun y H6 s6 hy => hq y H6 (s5.trans s6) hy⟩
    obtain ⟨s4, cs, hD2, hC⟩ := hP.fin hlen2
    have hbl := hB.len
    have hcl := hC.len
    rw [List.length_map] at hbl hcl
    refine ⟨D, D2, _, _, rfl, rfl, s4 _ _ hD, hD2, by rw [List.length_map, List.length_map]; exact sz1000 (by omega), fun l nl => ?_⟩
    have s5 := same_new (o := .lst (bs.map V.ref ++ cs.map V.ref)) nl
    refine ⟨l, _, rfl, .inl ⟨SqL.of upd_same, fun t nt => ?_⟩⟩
    have s6 := same_new (o := .tup (bs.map V.ref ++ cs.map V.ref)) nt
    exact q4 _ t (bs ++ cs) (s3.trans (s4.trans (s5.trans s6))) ⟨by rw [upd_same, List.map_append], (((hB.same s4).same s5).same s6).app ((hC.same s5).same s6)⟩
end
end HL

namespace HL
open PySem PySem.Spec PyProof.Rows L2
open C8 (pss_cut)
open LamX (GivesTo CodeO Tabs TabS TabB ExtN tLam pe_lamcall LamS lamS_by lamCx lamEnv codeO_ne)
/-! ### the flaw of a lot, by the law -/
def emptyK (ll : List (List Int)) (n : Nat) : List Nat := (List.range n).filter fun k => decide ((ll.getD k []).sum = 0)
def flawL (ll : List (List Int)) : Option Int := if 1 ≤ ll.length ∧ ll.length ≤ 5 ∧ 1 ≤ width ll ∧ width ll ≤ 3 then (emptyK ll ll.length).head?.map (fun (i : Nat) => (i : Int)) else some (-1)
theorem empty_step {ll : List (List Int)} {n : Nat} : emptyK ll (n + 1) = emptyK ll n ++ (if decide ((ll.getD n []).sum = 0) = true then [n] else []) := by
  unfold emptyK
  rw [List.range_succ, List.filter_append]
  congr 1
  by_cases h : decide ((ll.getD n []).sum = 0) = true
  · rw [if_pos h, List.filter_cons, if_pos h]
    rfl
  · rw [if_neg h, List.filter_cons, if_neg h]
    rfl
theorem okRow_sum {g : Nat} {r : List Int} (hl : r.length = g) (h : ∀ n ∈ r, 0 ≤ n ∧ n ≤ 6) : okRow g r = !decide (r.sum = 0) := by
  by_cases c : r.sum = 0
  · rw [decide_eq_true c]
    refine Bool.eq_false_iff.mpr fun z => ?_
    have := sum_pos (fun n hn => (h n hn).1) (okRow_iff.mp z).2.2
    omega
  · rw [decide_eq_false c]
    exact okRow_iff.mpr ⟨hl, h, pos_of_sum (fun n hn => (h n hn).1) c⟩
theorem flawL_eq {ll : List (List Int)} (h : ∀ r ∈ ll, r.length = width ll ∧ ∀ n ∈ r, 0 ≤ n ∧ n ≤ 6) : flawL ll = flaw ll := by
  unfold flawL flaw
  by_cases c : 1 ≤ ll.length ∧ ll.length ≤ 5 ∧ 1 ≤ width ll ∧ width ll ≤ 3
  · rw [if_pos c, if_pos c]
    have row : ∀ (j : Nat) (r : List Int), ll[j]? = some r → okRow (width ll) r = !decide ((ll.getD j []).sum = 0) := fun j r hj => by
      have hm := h r (List.mem_of_getElem? hj)
      rw [okRow_sum hm.1 hm.2, List.getD_eq_getElem?_getD, hj]
      rfl
    cases e : (emptyK ll ll.length).head? with
    | none =>
      have e' : emptyK ll ll.length = [] := List.head?_eq_none_iff.mp e
      refine (flawIn_none fun j r hj hjr => ?_).symm
      have := List.filter_eq_nil_iff.mp e' j (List.mem_range.mpr hj)
      rw [row j r hjr]
      cases z : decide ((ll.getD j []).sum = 0) with
      | false => rfl
      | true => rw [z] at this; exact absurd rfl this
    | some i =>
      unfold emptyK at e
      rw [List.head?_filter, List.find?_range_eq_some] at e
      obtain ⟨e1, e2, e3⟩ := e
      have hi := List.mem_range.mp e2
      have hii : ll[i]? = some ll[i] := List.getElem?_eq_getElem hi
      refine (flawIn_at hii ?_ fun j r hj hjr => ?_).symm
      · rw [row i _ hii, e1]
        rfl
      · rw [row j r hjr]
        exact e3 j hj
  · rw [if_neg c, if_neg c]
def optV : Option Int → V
  | none => .non
  | some k => .int k
theorem scFL : FnScope ["_law_mlot", "_law_empty", "_law_kind"] ["_law_mlot"] (defScope sFlawL) := ⟨rfl, rfl, rfl, by decide +kernel, rfl, by decide +kernel, by decide +kernel⟩
section
variable {P : Program} {w : World} {K : PySem.W.Frag} {mg : Str → Option Value} {base : Heap}
def spFlawL : Sp := fun vs H Q _ => ∃ (p : Addr) (as : List Addr) (ll : List (List Int)), vs = [.ref p] ∧ RowsAt H p as ll ∧ 1 ≤ ll.length ∧ ll.length ≤ 100 ∧ (∀ r ∈ ll, r.length ≤ 100 ∧ ∀ n ∈ r, 0 ≤ n ∧ n ≤ 6) ∧ ∀ H', Same H H' → Q (optV (flawL ll)) H'
theorem ok_flawL {f : Addr} {fd : FuncData} {k : Nat} (F : Fun K "_law_flaw" "_law_flaw" sFlawL f fd) (B : Bl mg) : FnOk P w K mg base CX0 (k + 1) f fd ["_law_mlot"] spFlawL := by
  refine F.ok scFL (fun vs H Q E h => ?_) (fun cdv A outer s H vs Q E hr h => ?_)
  · obtain ⟨p, as, ll, rfl, _⟩ := h
    rfl
  · obtain ⟨p, as, ll, rfl, R, hl1, hl2, hrow, q⟩ := h
    have hlen := R.2.len
    refine ⟨_, (pss_cons (ps_if (PW.pt (pw_or (pt_not (pt_chain op_le op_le pe_int (pe_callB call_len_seq (by rfl) B.len PySem.boot_len (pa_cons (pv 0) pa_nil)) pe_int)) (pw_or1 (pt_not (pt_chain op_le op_le pe_int (pe_callB call_len_seq (by rfl) B.len PySem.boot_len (pa_cons (pe_ix ix_tup (pv 0) pe_int (fun _ _ => rfl)) pa_nil)) pe_int))))) (pss_one (ps_ret (pe_un un_neg pe_int))) pss_nil)
      (pss_cons (ps_setLc (i := 1) (own := [("_law_kind", 2)]) (g := gName 2) (te := tVar 2) rfl scFL.nd rfl rfl (sw_true rfl rfl rfl (by decide +kernel)) (pi_range1 (by rfl) B.range (pa_cons (pe_callB call_len_seq (by rfl) B.len PySem.boot_len (pa_cons (pv 0) pa_nil)) pa_nil))
        (blkOk_by (own := [("_law_kind", 2)]) (N := ["_law_mlot", "_law_empty", "_law_kind"]) (sc := defScope sFlawL) (by decide +kernel)) (fun _ _ _ _ _ => pg_name (i := 2) scFL.nd rfl (Or.inl rfl)) (fun _ _ _ _ _ => pts_one (pt_cmpR op_eq (pe_callB (r := rSumT K) (cr_sumT rfl) (by rfl) B.sum (by decide +kernel) (pa_cons (pe_ix (r := rIxT K) ix_tup (pv 0) (pv 2) (fun _ _ => rfl)) pa_nil)) pe_int (nomark _)))
        (fun _ _ _ _ _ => (pv 2)))
      (pss_one (ps_ret (pe_ifExp (pt_cmpR (op_eqD hr.units) (pv 1) (pe_lst pa_nil) (nomark _)) pe_non (pe_ix ix_list (pv 1) pe_int (fun _ _ => rfl))))))), ?_⟩
    have sP : SqT K H p (as.map V.ref) := SqT.of R.1
    refine ⟨.ref p, rfl, p, _, rfl, .inr sP, 1, _, rfl, rfl, _, rfl, chainI ?_⟩
    rw [List.length_map, hlen]
    have bad : ¬ (1 ≤ ll.length ∧ ll.length ≤ 5 ∧ 1 ≤ width ll ∧ width ll ≤ 3) → Q (.int (-1)) H := fun z => by
      have := q H (Same.refl _)
      unfold flawL at this
      rw [if_neg z] at this
      exact this
    refine ite2 (fun c1 => iteT ⟨1, rfl, bad fun z => ?_⟩) (fun c1 => ?_)
    · simp at c1
      omega
    have c1' : 1 ≤ ll.length ∧ ll.length ≤ 5 := by
      simp at c1
      omega
    obtain ⟨a0, ha0, hh0, hw⟩ := R.2.head c1'.1
    have at0 : atI (as.map V.ref) 0 = some (.ref a0) := atI_nat (j := 0) (by rw [List.getElem?_map, ha0]; rfl)
    refine ⟨.ref p, rfl, p, _, 0, .ref a0, rfl, rfl, sP, at0, a0, _, rfl, .inr (SqT.of hh0), 1, _, rfl, rfl, _, rfl, chainI ?_⟩
    rw [List.length_map, hw]
    refine ite2 (fun c2 => ⟨1, rfl, bad fun z => ?_⟩) (fun c2 => ?_)
    · simp at c2
      omega
    have c2' : 1 ≤ width ll ∧ width ll ≤ 3 := by
      simp at c2
      omega
    have eF : flawL ll = (emptyK ll ll.length).head?.map (fun (i : Nat) => (i : Int)) := by
      unfold flawL
      rw [if_pos ⟨c1'.1, c1'.2, c2'.1, c2'.2⟩]
    refine ⟨.ref p, rfl, p, _, rfl, .inr sP, _, rfl, by omega, by rw [List.length_map]; omega, fun D nD => ?_⟩
    rw [List.length_map, hlen]
    refine lc_range (lo := 0) (n := ((ll.length : Nat) : Int).toNat) (fun i H' => Same H H' ∧ H' D = some (.lst ((emptyK ll i).map fun (j : Nat) => V.int (j : Int)))) ⟨same_new nD, upd_same⟩ (fun i H' hi ⟨sm, hD⟩ => ?_) (fun H' ⟨sm, hD⟩ => ?_)
    · have hi' : i < ll.length := by omega
      have ez : (0 : Int) + (i : Nat) = ((i : Nat) : Int) := by omega
      rw [ez]
      have hai : as[i]? = some (as[i]'(by omega)) := List.getElem?_eq_getElem (by omega)
      obtain ⟨r, hr1, hr2⟩ := R.2.at hai
      have egr : ll.getD i [] = r := by rw [List.getD_eq_getElem?_getD, hr1]; rfl
      refine ⟨rfl, ?_⟩
      refine ⟨.ref p, rfl, .int (i : Nat), rfl, p, _, (i : Nat), .ref (as[i]'(by omega)), rfl, rfl, SqT.of (R.same sm).1, atI_nat (by rw [List.getElem?_map, hai]; rfl), _, r, rfl, SqT.of (sm _ _ hr2), rfl, _, rfl, ?_⟩
      have ed : decide (V.int r.sum = V.int 0) = decide ((ll.getD i []).sum = 0) := by
        rw [egr]
        by_cases z : r.sum = 0
        · rw [decide_eq_true z, z, decide_eq_true rfl]
        · rw [decide_eq_false z, decide_eq_false (fun y => z (V.int.inj y))]
      rw [ed]
      have hcnt : (emptyK ll i).length ≤ i := by
        unfold emptyK
        exact Nat.le_trans (List.length_filter_le _ _) (by rw [List.length_range]; exact Nat.le_refl _)
      refine ite2 (fun c => ?_) (fun c => ?_)
      · refine ⟨.int (i : Nat), rfl, _, hD, ?_, same_late sm nD, ?_⟩
        · rw [List.length_map]
          exact small1000 (by omega)
        · rw [upd_same, empty_step, if_pos c, List.map_append]
          rfl
      · refine ⟨sm, ?_⟩
        rw [hD, empty_step, if_neg c, List.append_nil]
    · rw [Int.toNat_natCast] at hD
      have eD : ((emptyK ll ll.length).map fun (j : Nat) => V.int (j : Int)) = ((emptyK ll ll.length).map fun (j : Nat) => (j : Int)).map V.int := by rw [List.map_map]; rfl
      rw [eD] at hD
      refine ⟨.ref D, rfl, Nat.zero_le _, fun l nl => ?_⟩
      have s2 := same_new (o := .lst []) nl
      refine ⟨.list _, .list (([] : List Int).map PyData.int), .lst (SqL.of (s2 _ _ hD)) (dp_ints _), .lst (SqL.of upd_same) .nil, shaped_lst _, shaped_lst [], _, rfl, ?_⟩
      rw [eqv_list]
      have s3 := sm.trans s2
      have hq := q _ s3
      rw [eF] at hq
      cases e : emptyK ll ll.length with
      | nil =>
        rw [e] at hq
        exact iteT hq
      | cons j js =>
        rw [e] at hq hD
        refine iteF ⟨.ref D, rfl, D, _, 0, .int (j : Nat), rfl, rfl, SqL.of (s2 _ _ hD), atI_nat (j := 0) rfl, hq⟩
end
/-! ### an ask told by its refusal's field -/
theorem scTold : FnScope ["_law_ask", "_law_found", "e"] ["_law_ask"] (defScope sTold) := ⟨rfl, rfl, rfl, by decide +kernel, rfl, by decide +kernel, by decide +kernel⟩
theorem takes_len {X : Cx} {W : WX} (tk : Takes X W) : Takes X (fun cls d σ H => σ.length = X.N.length → W cls d σ H) := fun u s' ⟨a, B, sI, pins, σ, H, cls, d, e, I, nb, up, sky, na, os, ag, w⟩ =>
  tk u s' ⟨a, B, sI, pins, σ, H, cls, d, e, I, nb, up, sky, na, os, ag, w I.len⟩
inductive Wd where
  | no | lo | go
deriving DecidableEq
def Wd.s : Wd → Str
  | .no => "none"
  | .lo => "lot"
  | .go => "good"
abbrev pairV (q : Wd × V) : List V := [.str q.1.s, q.2]
def Catch2 (C CG : Addr) (Q : VK) : XK := fun cls d H' => ∃ (dd : Addr) (v : V) (wd : Wd), d = some dd ∧
  ((cls = .ref C ∧ H' dd = some (.xd (exF "kind" "bad lot" v)) ∧ wd = .lo) ∨ (cls = .ref CG ∧ H' dd = some (.xd (exF "good" "no good" v)) ∧ wd = .go)) ∧
  ∀ t, H' t = none → Q (.ref t) (upd H' t (.tup (pairV (wd, v))))
def TT2 (C CG : Addr) : (XK → Hp → VK → Prop) → Hp → VK → Prop := fun tl H Q => ∀ t0, H t0 = none → tl (Catch2 C CG Q) (upd H t0 (.tup (pairV (.no, .non)))) (fun _ H' => Q (.ref t0) H')
structure ClsT (K : PySem.W.Frag) (mg : Str → Option Value) (C CG : Addr) : Prop where
  gC : mg "BadLot" = some (.ref C)
  gG : mg "NoGood" = some (.ref CG)
  xC : XfC K C
  xG : XfC K CG
  nC : PySem.W.findIn K (.ref C) "kind" = some none
  nG : PySem.W.findIn K (.ref CG) "good" = some none
  ll : PySem.W.exmOne K (.ref C) (.ref C) = some true
  gl : PySem.W.exmOne K (.ref CG) (.ref C) = some false
  gg : PySem.W.exmOne K (.ref CG) (.ref CG) = some true
theorem told_gives {X : Cx} {q : Str} {g C CG : Addr} {cdg : Value} (T : ClsT X.K X.mg C CG) : GivesTo X ["_law_ask", "_law_found", "e"] "_law_told" (defScope sTold) g cdg (defBody sTold) "_law_ask" q (TT2 C CG) := by
  intro f c' s H Q tl act hc h
  refine ⟨_, pss_cons (ps_set (i := 1) scTold.nd rfl (.inl rfl) (pe_tup (pa_cons pe_str (pa_cons pe_non pa_nil)))) (pss_cons (ps_try_manyA (i := 2) (n := "e")
      (tb := fun W D σ H => ∃ Ech : XK, (∀ cls d σ' H', Ech cls d H' → σ'.length = 3 → W cls d σ' H') ∧ σ[0]? = some (some (.ref f)) ∧ H c' = some (CodeO c' q) ∧ tl Ech H (fun _ H' => D.nx σ H')) (Wout := fun _ _ _ _ => False)
      (l := [(.ref C, fun a cls d => tAsg (tTup (tCons (tC (.str "lot")) (tCons (tXf a cls d C "kind" (tVar 2)) tNil))) (gName 1)), (.ref CG, fun a cls d => tAsg (tTup (tCons (tC (.str "good")) (tCons (tXf a cls d CG "good" (tVar 2)) tNil))) (gName 1))])
      rfl rfl scTold.nd rfl rfl L2.takes0 (fun W pn xe tk _ => ⟨fun pins s' σ H' D I h' => ?_⟩)
      (.cons ⟨rfl, by decide, .inl T.gC⟩ (fun a oe cls d pn hz hf => pss_one (ps_set (i := 1) scTold.nd rfl (.inl rfl) (pe_tup (pa_cons pe_str (pa_cons (pe_xf T.xC T.nC hz hf (pv 2)) pa_nil)))))
      (.cons ⟨rfl, by decide, .inl T.gG⟩ (fun a oe cls d pn hz hf => pss_one (ps_set (i := 1) scTold.nd rfl (.inl rfl) (pe_tup (pa_cons pe_str (pa_cons (pe_xf T.xG T.nG hz hf (pv 2)) pa_nil))))) .nil)))
    (pss_one (ps_ret (pv 1)))), ?_⟩
  · obtain ⟨Ech, hW, h1, h2, h3⟩ := h'
    exact (pss_one (ps_expr (act _ pn xe Ech _ _ (takes_len tk) hW))).run pins s' σ H' D I ⟨h1, h2, h3⟩
  · refine ⟨(by show 2 ≤ sizeLine; decide), fun t0 nt0 => ?_⟩
    refine ⟨Catch2 C CG Q, fun cls d σ' H' hE hl => ?_, rfl, ?_, ?_⟩
    · obtain ⟨dd, v, wd, rfl, hcase, hQ⟩ := hE
      obtain ⟨x0, x1, x2, rfl⟩ : ∃ x0 x1 x2, σ' = [x0, x1, x2] := by
        match σ', hl with
        | [x0, x1, x2], _ => exact ⟨x0, x1, x2, rfl⟩
      rcases hcase with ⟨rfl, hd, rfl⟩ | ⟨rfl, hd, rfl⟩
      · refine ⟨true, T.ll, fun _ a na => ?_, fun z => Bool.noConfusion z⟩
        exact ⟨.ref a, rfl, rfl, rfl, dd, _, v, rfl, hd, rfl, (by show 2 ≤ sizeLine; decide), fun t nt => ⟨.ref t, rfl, hQ t nt⟩⟩
      · refine ⟨false, T.gl, fun z => Bool.noConfusion z, fun _ => ⟨true, T.gg, fun _ a na => ?_, fun z => Bool.noConfusion z⟩⟩
        exact ⟨.ref a, rfl, rfl, rfl, dd, _, v, rfl, hd, rfl, (by show 2 ≤ sizeLine; decide), fun t nt => ⟨.ref t, rfl, hQ t nt⟩⟩
    · rw [upd_ne (ne_of_none hc nt0)]
      exact hc
    · have e2 : (fun (_ : V) (H' : Hp) => ∃ v, ([some (.ref f), some (.ref t0), none] : L2.St)[1]? = some (some v) ∧ Q v H') = (fun (_ : V) (H' : Hp) => Q (.ref t0) H') := by
        funext _ H'
        refine propext ⟨fun ⟨v, ev, hv⟩ => ?_, fun hv => ⟨_, rfl, hv⟩⟩
        cases Option.some.inj (Option.some.inj ev)
        exact hv
      have h' : tl (Catch2 C CG Q) (upd H t0 (.tup (pairV (.no, .non)))) (fun _ H' => ∃ v, ([some (.ref f), some (.ref t0), none] : L2.St)[1]? = some (some v) ∧ Q v H') := by
        rw [e2]
        exact h t0 nt0
      exact h'
def OutP (C CG : Addr) (q : Wd × V) (H : Hp) (Qn : VK) (E : XK) : Prop := match q.1 with
  | .no => ∀ x H', Same H H' → Qn x H'
  | .lo => Refd C "kind" "bad lot" q.2 H E
  | .go => Refd CG "good" "no good" q.2 H E
theorem told_ask {T : List (Addr × Str)} {C CG : Addr} {body : XK → TE} {σ : L2.St} {H : Hp} {Q : VK} (o : Wd × V) (ho : o.1 = .no → o.2 = .non) (hT : Tabs T H)
    (hask : ∀ H5 H6 Qn E, ExtN H H5 → Same H5 H6 → OutP C CG o H6 Qn E → body E σ H6 Qn) (q : ∀ H5 H' t, ExtN H H5 → Tabs T H5 → Same H5 H' → H' t = some (.tup (pairV o)) → Q (.ref t) H') : tLam T (TT2 C CG) body σ H Q := by
  refine ⟨hT, fun H5 e5 T5 t0 nt0 => hask H5 _ _ _ e5 (same_new nt0) ?_⟩
  obtain ⟨wd, v⟩ := o
  cases wd with
  | no =>
    intro x H' s
    refine q H5 H' t0 e5 T5 ((same_new nt0).trans s) ?_
    have ev : v = .non := ho rfl
    rw [ev]
    exact s _ _ upd_same
  | lo => exact fun H' d s nd hd => ⟨d, v, .lo, rfl, .inl ⟨rfl, hd, rfl⟩, fun t nt => q H5 _ t e5 T5 ((same_new nt0).trans (s.trans (same_new nt))) upd_same⟩
  | go => exact fun H' d s nd hd => ⟨d, v, .go, rfl, .inr ⟨rfl, hd, rfl⟩, fun t nt => q H5 _ t e5 T5 ((same_new nt0).trans (s.trans (same_new nt))) upd_same⟩
end HL

set_option pp.maxSteps 600
set_option pp.deepTerms false
namespace HL
open PySem PySem.Spec PyProof.Rows L2
open C8 (pss_cut)
open LamX (GivesTo CodeO Tabs TabS TabB ExtN tLam pe_lamcall LamS lamS_by lamCx lamEnv codeO_ne)
abbrev NL : List Str := ["_law_script", "_law_feed_here", "_law_turn", "_law_one", "_law_other", "_law_wide", "_law_mgoods", "_law_odd", "_law_at", "_law_due", "_law_later", "_law_flaw_here", "_law_both", "_law_good", "_law_hold_here"]
theorem scLaw : FnScope NL ["_law_script"] (defScope sLaw) := ⟨rfl, rfl, rfl, by decide +kernel, rfl, by decide +kernel, by decide +kernel⟩
abbrev scLaO : Scope := { kind := .function, names := [(".0", .local), ("_law_hold_here", .cell), ("tuple", .globalImplicit), ("_law_mgoods", .cell)], isGenerator := false, isCoroutine := false }
abbrev qLam : Str := ((Str.ofString "law" : Str) ++ (Str.ofString ".<locals>." : Str)) ++ (Str.ofString "<lambda>" : Str)
/-- f(k = v, ..) -/
theorem pe_kw0 {X : Cx} {CX : CXT} {k : Nat} {f : Addr} {fd : FuncData} {ps ks : List Str} {sp : Sp} {E : XK} {x : Str} {p pos : Pos} {kws : List Keyword} {tk : TA} {g : List Value → List Value → List Value} {gV : List V → List V → List V}
    (F : FnOk X.prog X.w X.K X.mg X.base CX k f fd ps sp) (hr : Room k X.A) (hg : Gl X x) (hm : X.mg x = some (.ref f)) (hk : PySem.W.keepIn X.K (.ref f) = true) (hb : KBn X.K fd ps 0 ks g gV) (hx : Passes CX X E) (hkw : PK X kws tk)
    (hall : (backToKw pos (keywordEach kws X.env)).all (·.1.isSome) = true := by rfl)
    (hks : (backToKw pos (keywordEach kws X.env)).filterMap (·.1) = ks := by rfl) (hdb : (x == ("__debug__" : Str)) = false := by decide)
    (hpl : ((backTo pos (starEach [] X.env)).any (·.1) || (backToKw pos (keywordEach kws X.env)).any (·.1.isNone)) = false := by rfl) : PE X (.Call (.Name x p) [] kws pos) (tCallN 0 ks.length sp gV E tNil tk) := by
  refine ⟨fun pins s σ H Q I h => wpAny_Call_Name_kw (ld_glob I hg hm ?_ hdb)⟩
  refine PySem.W.callWith_KW0 (h₀ := X.base) I.ok.mod.kin hk hall (thn (hkw.run pos pins s σ H _ I h) fun ws s2 ⟨zs, H2, I2, rz, l1, l2, q2⟩ => ⟨I2.kIn, ?_⟩) hpl
  rw [hks]
  exact run_fnN (us := []) (vs := []) F hr hb hx I2 .nil rz rfl l2 q2
theorem sz_2 (v w : V) : [v, w].length ≤ sizeLine := by
  show 2 ≤ sizeLine
  decide
theorem FeedAt.ext {c : Addr} {H H' : Hp} {f : Addr} (F : FeedAt c H f) (e : ExtN H H') : FeedAt c H' f := by
  obtain ⟨ns, i, b, m, n, h1, h2, h3⟩ := F
  exact ⟨ns, i, b, m, n, e _ _ h1 (fun ps z => by cases z), e _ _ h2 (fun ps z => by cases z), h3⟩
theorem IntsAt.ext {H H' : Hp} {p : Addr} {ns : List Int} (h : IntsAt H p ns) (e : ExtN H H') : IntsAt H' p ns := e _ _ h (fun ps z => by cases z)
theorem RowsAt.ext {H H' : Hp} {p : Addr} {as : List Addr} {ll : List (List Int)} (h : RowsAt H p as ll) (e : ExtN H H') : RowsAt H' p as ll :=
  ⟨e _ _ h.1 (fun ps z => by cases z), h.2.mono fun a xs q => e _ _ q (fun ps z => by cases z)⟩
theorem tabs_kp {T : List (Addr × Str)} {H H' : Hp} {f c : Addr} (t : Tabs T H) (F : FeedAt c H f) (k : Kp f H H') : Tabs T H' := fun p hp => by
  obtain ⟨ps, h1, h2, h3⟩ := t p hp
  obtain ⟨ns, i, b, m, n, g1, _⟩ := F
  refine ⟨ps, k _ _ (ne_of h1 g1 (fun z => by cases z)) h1, h2, fun pos cv hc => ?_⟩
  obtain ⟨c0, e1, e2⟩ := h3 pos cv hc
  refine ⟨c0, e1, k _ _ (ne_of e2 g1 (fun z => ?_)) e2⟩
  unfold CodeO at z
  cases z
theorem tabs_list {T : List (Addr × Str)} {H : Hp} {l : Addr} {xs ys : List V} (t : Tabs T H) (h : H l = some (.lst xs)) : Tabs T (upd H l (.lst ys)) := fun p hp => by
  obtain ⟨ps, h1, h2, h3⟩ := t p hp
  refine ⟨ps, by rw [upd_ne (ne_of h1 h (fun z => by cases z))]; exact h1, h2, fun pos cv hc => ?_⟩
  obtain ⟨c0, e1, e2⟩ := h3 pos cv hc
  refine ⟨c0, e1, ?_⟩
  rw [upd_ne (ne_of e2 h (fun z => ?_))]
  · exact e2
  · unfold CodeO at z
    cases z
theorem good_flaw {g m : Int} {ll : List (List Int)} (g1 : 1 ≤ g) (g3 : g ≤ 3) (m6 : m ≤ 6) (h : GoodLot g m 5 ll) : flaw ll = none := by
  obtain ⟨h1, h2, h3⟩ := h
  have hw : width ll = g.toNat := by
    cases ll with
    | nil => simp at h1
    | cons r rs => exact (h3 r List.mem_cons_self).1
  unfold flaw
  rw [if_pos ⟨h1, h2, by omega, by omega⟩]
  exact flawIn_none fun j r hj hjr => by
    obtain ⟨e1, e2, e3⟩ := h3 r (List.mem_of_getElem? hjr)
    refine okRow_iff.mpr ⟨by rw [e1, hw], fun n hn => ?_, e3⟩
    have := e2 n hn
    omega
theorem eqd_tup {H : Hp} {a b : Addr} {xs : List V} {d : Nat} (ha : H a = some (.tup xs)) (hb : H b = some (.tup xs)) (hz : xs.length ≤ 1000) (hl : ∀ x ∈ xs, leafV x = true) : Eqd H (d + 1) (.ref a) (.ref b) :=
  .inr ⟨a, b, xs, xs, rfl, rfl, .inr ⟨ha, hb⟩, rfl, hz, fun i x y h1 h2 => by
    rw [h1] at h2
    cases h2
    have e := hl x (List.mem_of_getElem? h1)
    cases d with
    | zero => exact ⟨rfl, e⟩
    | succ d => exact .inl ⟨rfl, e⟩⟩
/-- two lots of the same rows, each at its own places -/
theorem eqd_rows {H : Hp} {p q : Addr} {as bs : List Addr} {ll : List (List Int)} (hp : RowsAt H p as ll) (hq : RowsAt H q bs ll) (hl : ll.length ≤ 100) (hr : ∀ r ∈ ll, r.length ≤ 100) : Eqd H 2 (.ref p) (.ref q) :=
  .inr ⟨p, q, as.map V.ref, bs.map V.ref, rfl, rfl, .inr ⟨hp.1, hq.1⟩, by rw [List.length_map, List.length_map, hp.2.len, hq.2.len], by rw [List.length_map, hp.2.len]; omega, fun i x y h1 h2 => by
    rw [List.getElem?_map] at h1 h2
    cases e1 : as[i]? with
    | none => rw [e1] at h1; cases h1
    | some a =>
      cases e2 : bs[i]? with
      | none => rw [e2] at h2; cases h2
      | some b =>
        rw [e1] at h1
        rw [e2] at h2
        cases Option.some.inj h1
        cases Option.some.inj h2
        obtain ⟨r, g1, g2⟩ := hp.2.at e1
        obtain ⟨r', g3, g4⟩ := hq.2.at e2
        rw [g1] at g3
        cases Option.some.inj g3
        refine eqd_tup (d := 0) g2 g4 (by rw [List.length_map]; have := hr r (List.mem_of_getElem? g1); omega) fun z hz => ?_
        obtain ⟨n, _, rfl⟩ := List.mem_map.mp hz
        rfl⟩
theorem Eqd.up {H : Hp} : ∀ {d : Nat} {x y : V}, Eqd H d x y → Eqd H (d + 1) x y
  | 0, _, _, h => .inl h
  | d + 1, _, _, .inl h => .inl h
  | d + 1, _, _, .inr ⟨a, b, xs, ys, ex, ey, hs, hl, hz, ih⟩ => .inr ⟨a, b, xs, ys, ex, ey, hs, hl, hz, fun i x y h1 h2 => Eqd.up (ih i x y h1 h2)⟩
/-- two ways that meet -/
theorem ite_join {b : Bool} {te1 te2 : TE} {σ : L2.St} {H : Hp} {Q : VK} (Z : V → Hp → Prop) (h1 : b = true → ∀ Q' : VK, (∀ v H', Z v H' → Q' v H') → te1 σ H Q') (h2 : b = false → ∀ Q' : VK, (∀ v H', Z v H' → Q' v H') → te2 σ H Q') (q : ∀ v H', Z v H' → Q v H') :
    if b = true then te1 σ H Q else te2 σ H Q := by
  cases b with
  | true => exact iteT (h1 rfl Q q)
  | false => exact iteF (h2 rfl Q q)
def outK : Option Int → Wd × V
  | none => (.no, .non)
  | some k => (.lo, .int k)
def outSeen (l1 : List (List Int)) (gs : List Int) : Wd × V := match (odds (width l1) gs gs.length).head? with
  | some i => (.go, .int (gs.getD i 0))
  | none => outK (flaw (seenLot gs l1))
theorem outK_no {x : Option Int} (h : (outK x).1 = .no) : (outK x).2 = .non := by
  cases x with
  | none => rfl
  | some k => cases h
theorem outSeen_no {l1 : List (List Int)} {gs : List Int} (h : (outSeen l1 gs).1 = .no) : (outSeen l1 gs).2 = .non := by
  unfold outSeen at h ⊢
  cases e : (odds (width l1) gs gs.length).head? with
  | none => rw [e] at h; exact outK_no h
  | some i => rw [e] at h; cases h
theorem outK_leaf (x : Option Int) : leafV (outK x).2 = true := by
  cases x <;> rfl
theorem outSeen_leaf (l1 : List (List Int)) (gs : List Int) : leafV (outSeen l1 gs).2 = true := by
  unfold outSeen
  cases (odds (width l1) gs gs.length).head? with
  | none => exact outK_leaf _
  | some i => rfl
theorem pair_leaf {o : Wd × V} (h : leafV o.2 = true) : ∀ x ∈ pairV o, leafV x = true := fun x hx => by
  rcases List.mem_cons.mp hx with h1 | h1
  · rw [h1]
    rfl
  · rw [List.mem_singleton.mp h1]
    exact h
theorem wd_no {w : Wd} : decide (V.str w.s = V.str "none") = decide (w = .no) := by
  cases w with
  | no => decide +kernel
  | lo => decide +kernel
  | go => decide +kernel
/-- ('none', None) if x is None else ('lot', x) -/
theorem due_read {x : Option Int} {te : TE} {σ : L2.St} {H : Hp} {Q : VK} (hte : ∀ Q' : VK, Q' (optV x) H → te σ H Q') (q : ∀ t, H t = none → Q (.ref t) (upd H t (.tup (pairV (outK x))))) :
    if decide (optV x = .non) = true then tTup (tCons (tC (.str "none")) (tCons (tC .non) tNil)) σ H Q else tTup (tCons (tC (.str "lot")) (tCons te tNil)) σ H Q := by
  cases x with
  | none => exact iteT ⟨(by show 2 ≤ sizeLine; decide), q⟩
  | some k => exact iteF (hte _ ⟨(by show 2 ≤ sizeLine; decide), q⟩)
theorem seen_out {C CG : Addr} {H : Hp} {Qn : VK} {E : XK} {p g : Addr} {as : List Addr} {ll : List (List Int)} {gs : List Int} (R : RowsAt H p as ll) (G : IntsAt H g gs) (hz : gs.length ≤ 100) (ef : flaw ll = none) (h : OutP C CG (outSeen ll gs) H Qn E) : spSeen C CG [.ref p, .ref g] H Qn E := by
  refine ⟨p, g, as, ll, gs, rfl, R, G, hz, ef, fun i hi => ?_, fun ho => ⟨fun k hk => ?_, fun e H' p' _ s _ => ?_⟩⟩
  · unfold outSeen at h
    rw [hi] at h
    exact h
  · unfold outSeen at h
    rw [ho, hk] at h
    exact h
  · unfold outSeen at h
    rw [ho, e] at h
    exact h (.ref p') H' s
theorem beside_out {C CG : Addr} {H : Hp} {Qn : VK} {E : XK} {p1 p2 : Addr} {as1 as2 : List Addr} {l1 l2 : List (List Int)} (R1 : RowsAt H p1 as1 l1) (R2 : RowsAt H p2 as2 l2) (e1 : flaw l1 = none) (e2 : flaw l2 = none) (h : OutP C CG (outK (flaw (bes l1 l2))) H Qn E) : spBeside C [.ref p1, .ref p2] H Qn E := by
  refine ⟨p1, p2, as1, as2, l1, l2, rfl, R1, R2, e1, e2, fun k hk => ?_, fun e H' p' _ s _ => ?_⟩
  · rw [hk] at h
    exact h
  · rw [e] at h
    exact h (.ref p') H' s
theorem seen_rows {ll : List (List Int)} {gs : List Int} (hl : 1 ≤ ll.length) (h : ∀ r ∈ ll, r.length = width ll ∧ ∀ n ∈ r, 0 ≤ n ∧ n ≤ 6) : ∀ r ∈ seenLot gs ll, r.length = width (seenLot gs ll) ∧ ∀ n ∈ r, 0 ≤ n ∧ n ≤ 6 := fun r hr => by
  obtain ⟨r0, m0, rfl⟩ := List.mem_map.mp hr
  refine ⟨?_, fun n hn => ?_⟩
  · unfold seenLot
    rw [width_map hl]
    unfold seenRow
    rw [List.length_map, List.length_map]
  · obtain ⟨g, _, rfl⟩ := List.mem_map.mp hn
    rw [List.getD_eq_getElem?_getD]
    cases e : r0[g.toNat]? with
    | none => exact ⟨by decide, by decide⟩
    | some x => exact (h r0 m0).2 x (List.mem_of_getElem? e)
/-- all that the law takes from the module -/
structure Txt (P : Program) (w : World) (K : PySem.W.Frag) (mg : Str → Option Value) (base : Heap) (C CG : Addr) : Prop where
  B : Bl mg
  feed : Cal P w K mg base CX0 1 "_law_feed" ["_law_script"] (spFeed K)
  draw : Cal P w K mg base CX0 1 "_law_draw" ["_law_feed_here", "_law_many"] spDraw
  pick : Cal P w K mg base CX0 2 "_law_pick" ["_law_feed_here", "_law_row"] spPick
  shuf : Cal P w K mg base CX0 2 "_law_shuffled" ["_law_feed_here", "_law_row"] spShuf
  same2 : Cal P w K mg base CX0 3 "_law_same" ["_law_found", "_law_due"] (spSame 2)
  any : Cal P w K mg base CX0 4 "_law_any_lot" ["_law_feed_here"] spAny
  fl : Cal P w K mg base CX0 1 "_law_flaw" ["_law_mlot"] spFlawL
  bl : Cal P w K mg base CX0 2 "_law_beside" ["_law_one", "_law_other"] spBesL
  bs : Cal P w K mg base (L2.CX P w) 5 "beside" ["one", "other"] (spBeside C)
  se : ∃ (f : Addr) (fd : FuncData), FnOk P w K mg base (L2.CX P w) 5 f fd ["lot", "goods"] (spSeen C CG) ∧ mg "seen" = some (.ref f) ∧ PySem.W.keepIn K (.ref f) = true ∧ Binds K fd ["lot", "goods"] [] ∧
    KBn K fd ["lot", "goods"] 0 ["goods", "lot"] (fun _ ws => ws.reverse) (fun _ zs => zs.reverse)
  told : ∃ (g : Addr) (oc : Value) (od : Option Addr) (kV doc pm : Value) (an : Option Addr) (cdv ct : Value) (osl : Array (Option Value)), mg "_law_told" = some (.ref g) ∧ PySem.W.keepIn K (.ref g) = true ∧
    K.lookup g = some ⟨oc, od, .func (PySem.W.fnOf "_law_told" "_law_told" (defArgs sTold) (defBody sTold) (defScope sTold) .none kV doc pm an cdv ct), osl⟩ ∧ PySem.W.codeIn K cdv "_law_told" = true ∧
    L2.Binds K (PySem.W.fnOf "_law_told" "_law_told" (defArgs sTold) (defBody sTold) (defScope sTold) .none kV doc pm an cdv ct) ["_law_ask"] []
  cls : ClsT K mg C CG
/-- the law's turn: what it knows of the heap -/
structure S2 (cf fe Pt p1 p2 : Addr) (as1 as2 : List Addr) (l1 l2 : List (List Int)) (H : Hp) : Prop where
  F : FeedAt cf H fe
  T : Tabs [(Pt, qLam)] H
  R1 : RowsAt H p1 as1 l1
  R2 : RowsAt H p2 as2 l2
section
variable {cf fe Pt p1 p2 : Addr} {as1 as2 : List Addr} {l1 l2 : List (List Int)} {H H' : Hp}
theorem S2.same (x : S2 cf fe Pt p1 p2 as1 as2 l1 l2 H) (s : Same H H') : S2 cf fe Pt p1 p2 as1 as2 l1 l2 H' := ⟨x.F.same s, x.T.ext s, x.R1.same s, x.R2.same s⟩
theorem S2.ext (x : S2 cf fe Pt p1 p2 as1 as2 l1 l2 H) (s : ExtN H H') (t : Tabs [(Pt, qLam)] H') : S2 cf fe Pt p1 p2 as1 as2 l1 l2 H' := ⟨x.F.ext s, t, x.R1.ext s, x.R2.ext s⟩
theorem S2.kp (x : S2 cf fe Pt p1 p2 as1 as2 l1 l2 H) (k : Kp fe H H') (F : FeedAt cf H' fe) : S2 cf fe Pt p1 p2 as1 as2 l1 l2 H' := ⟨F, tabs_kp x.T x.F k, x.R1.kp x.F k, x.R2.kp x.F k⟩
theorem S2.put {l : Addr} {xs ys : List V} (x : S2 cf fe Pt p1 p2 as1 as2 l1 l2 H) (h : H l = some (.lst xs)) (n1 : l ≠ fe) (n2 : l ≠ cf) : S2 cf fe Pt p1 p2 as1 as2 l1 l2 (upd H l (.lst ys)) :=
  ⟨x.F.put n1 n2, tabs_list x.T h, ⟨by rw [upd_ne (ne_of x.R1.1 h (fun z => by cases z))]; exact x.R1.1, x.R1.2.lput h⟩, ⟨by rw [upd_ne (ne_of x.R2.1 h (fun z => by cases z))]; exact x.R2.1, x.R2.2.lput h⟩⟩
theorem IntsAt.lput {g l : Addr} {gs : List Int} {xs ys : List V} (x : IntsAt H g gs) (h : H l = some (.lst xs)) : IntsAt (upd H l (.lst ys)) g gs := by
  unfold IntsAt
  rw [upd_ne (ne_of x h (fun z => by cases z))]
  exact x
end
section
variable {P : Program} {w : World} {K : PySem.W.Frag} {mg : Str → Option Value} {base : Heap}
def spLaw (K : PySem.W.Frag) (Pt : Addr) : Sp := fun vs H Q _ => ∃ (a : Addr) (ns : List Int), vs = [.ref a] ∧ SqL K H a (ns.map V.int) ∧ ns.length ≤ 63 ∧ Tabs [(Pt, qLam)] H ∧ ∀ H', Q (.bl true) H'
theorem ok_law {f C CG c Pt : Addr} {oc : Value} {od : Option Addr} {kV doc pm : Value} {an : Option Addr} {ct : Value} {osl : Array (Option Value)}
    (lk : K.lookup f = some ⟨oc, od, .func (PySem.W.fnOf "law" "law" (defArgs sLaw) (defBody sLaw) (defScope sLaw) .none kV doc pm an (.ref c) ct), osl⟩) (hcd : PySem.W.codeIn K (.ref c) "law" = true) (T : Txt P w K mg base C CG) (TB : TabB base mg c Pt) :
    FnOk P w K mg base CX0 9 f (PySem.W.fnOf "law" "law" (defArgs sLaw) (defBody sLaw) (defScope sLaw) .none kV doc pm an (.ref c) ct) ["_law_script"] (spLaw K Pt) := by
  have B := T.B
  obtain ⟨fF, fdF, GF, gF, kF, bF⟩ := T.feed.ex
  obtain ⟨fD, fdD, GD, gD, kD, bD⟩ := T.draw.ex
  obtain ⟨fP, fdP, GP, gP, kP, bP⟩ := T.pick.ex
  obtain ⟨fSh, fdSh, GSh, gSh, kSh, bSh⟩ := T.shuf.ex
  obtain ⟨fS, fdS, GS, gS, kS, bS⟩ := T.same2.ex
  obtain ⟨fA, fdA, GA, gA, kA, bA⟩ := T.any.ex
  obtain ⟨fFL, fdFL, GFL, gFL, kFL, bFL⟩ := T.fl.ex
  obtain ⟨fBL, fdBL, GBL, gBL, kBL, bBL⟩ := T.bl.ex
  obtain ⟨fBs, fdBs, GBs, gBs, kBs, bBs⟩ := T.bs.ex
  obtain ⟨fSe, fdSe, GSe, gSe, kSe, bSe, kb1⟩ := T.se
  obtain ⟨gT, toc, tod, tkV, tdoc, tpm, tan, tcdv, tct, tosl, gTold, kTold, lkT, cdT, bT⟩ := T.told
  refine fn_of lk hcd scLaw (fun vs H Q E h => ?_) fun A outer s H vs Q E hr h => ?_
  · obtain ⟨a, ns, rfl, _⟩ := h
    rfl
  · obtain ⟨a, ns, rfl, hS, hlen, hT, q⟩ := h
    have tl : ∀ {X : Cx} (eK : X.K = K) (em : X.mg = mg) {q : Str} {cdg : Value} {g : Addr}, GivesTo X ["_law_ask", "_law_found", "e"] "_law_told" (defScope sTold) g cdg (defBody sTold) "_law_ask" q (TT2 C CG) := fun {X} eK em {q cdg g} => by
      subst eK em
      exact told_gives T.cls
    have build : ∃ t, PSs (cxOf CX0 P w K mg base NL "law" (defScope sLaw) f (.ref c) A outer s H E).nox (defBody sLaw) t ∧ t { nx := fun _ H' => Q .non H', rt := Q } (L2.start NL [.ref a]) H := by
      refine ⟨_, (pss_cons (ps_set (i := 1) scLaw.nd rfl (.inl rfl) (pe_call GF (hr.mono (by decide)) (by rfl) gF kF bF .nil pass0 (pa_cons (pv 0) pa_nil)))
      (pss_cons (ps_for PassesOwn.never rfl (pi_range1 (by rfl) B.range (pa_cons pe_int pa_nil)) (pg_name (i := 2) scLaw.nd rfl (.inl rfl))
      (pss_cut (ps_asg (pe_tup (pa_cons (pe_call GA (hr.mono (by decide)) (by rfl) gA kA bA .nil pass0 (pa_cons (pv 1) pa_nil)) (pa_cons (pe_call GA (hr.mono (by decide)) (by rfl) gA kA bA .nil pass0 (pa_cons (pv 1) pa_nil)) pa_nil))) (pg_tup rfl (pgs_cons (pg_name (i := 3) scLaw.nd rfl (.inr rfl)) (pgs_cons (pg_name (i := 4) scLaw.nd rfl (.inr rfl)) pgs_nil))))
      (pss_cons (ps_set (i := 5) scLaw.nd rfl (.inl rfl) (pe_callB call_len_seq (by rfl) B.len PySem.boot_len (pa_cons (pe_ix ix_tup (pv 3) pe_int (fun _ _ => rfl)) pa_nil)))
      (pss_cut (ps_set (i := 6) scLaw.nd rfl (.inr rfl) (pe_callTy call_tuple_of (by rfl) B.tuple (by decide +kernel) (pa_cons (pe_slice sl_list (pe_call GSh (hr.mono (by decide)) (by rfl) gSh kSh bSh .nil pass0 (pa_cons (pv 1) (pa_cons (pe_listRg rfl (by rfl) B.list (prg_1 (by rfl) B.range (pv 5))) pa_nil))) po_none (po_some (pe_op op_add pe_int (pe_call GD (hr.mono (by decide)) (by rfl) gD kD bD .nil pass0 (pa_cons (pv 1) (pa_cons (pv 5) pa_nil)))))) pa_nil)))
      (pss_cut (ps_if (pt_cmpR op_eq (pe_call GD (hr.mono (by decide)) (by rfl) gD kD bD .nil pass0 (pa_cons (pv 1) (pa_cons pe_int pa_nil))) pe_int (nomark _)) (pss_one (ps_set (i := 6) scLaw.nd rfl (.inr rfl) (pe_op op_catA (pv 6) (pe_tup (pa_cons (pe_call GP (hr.mono (by decide)) (by rfl) gP kP bP .nil pass0 (pa_cons (pv 1) (pa_cons (pe_lst (pa_cons (pe_ix ix_tup (pv 6) pe_int (fun _ _ => rfl)) (pa_cons (pv 5) (pa_cons (pe_un un_neg pe_int) (pa_cons (pe_op op_pow pe_int pe_int) pa_nil))))) pa_nil))) pa_nil))))) pss_nil)
      (pss_cut (ps_if (pt_cmpR op_eq (pe_call GD (hr.mono (by decide)) (by rfl) gD kD bD .nil pass0 (pa_cons (pv 1) (pa_cons pe_int pa_nil))) pe_int (nomark _)) (pss_one (ps_set (i := 6) scLaw.nd rfl (.inr rfl) (pe_tup pa_nil))) pss_nil)
      (pss_cons (ps_set (i := 7) scLaw.nd rfl (.inl rfl) (pe_lst pa_nil))
      (pss_cons (ps_for PassesOwn.never rfl (pi_range1 (by rfl) B.range (pa_cons (pe_callB call_len_seq (by rfl) B.len PySem.boot_len (pa_cons (pv 6) pa_nil)) pa_nil)) (pg_name (i := 8) scLaw.nd rfl (.inl rfl))
      (pss_one (ps_if (PW.pt (pw_or (pt_not (pt_chain op_le op_lt pe_int (pe_ix ix_tup (pv 6) (pv 8) (fun _ _ => rfl)) (pv 5))) (pw_or1 (pt_cmpR op_in_seq (pe_ix ix_tup (pv 6) (pv 8) (fun _ _ => rfl)) (pe_slice sl_tupA (pv 6) po_none (po_some (pv 8))) (by rfl))))) (pss_one (ps_expr (pe_bm PySem.F.plainAttrs_list PySem.F.slot_list_append PySem.F.type_list_append mt_append (pv 7) (pa_cons (pe_ix ix_tup (pv 6) (pv 8) (fun _ _ => rfl)) pa_nil)))) pss_nil)))
      (pss_cons (ps_asg (pe_tup (pa_cons (pe_tup (pa_cons pe_str (pa_cons pe_non pa_nil))) (pa_cons (pe_tup pa_nil) pa_nil))) (pg_tup rfl (pgs_cons (pg_name (i := 9) scLaw.nd rfl (.inl rfl)) (pgs_cons (pg_name (i := 10) scLaw.nd rfl (.inl rfl)) pgs_nil))))
      (pss_cut (ps_if (pt_cmpR (op_neD hr.units) (pv 7) (pe_lst pa_nil) (nomark _)) (pss_one (ps_set (i := 9) scLaw.nd rfl (.inl rfl) (pe_tup (pa_cons pe_str (pa_cons (pe_ix ix_list (pv 7) pe_int (fun _ _ => rfl)) pa_nil))))) (pss_cons (ps_set (i := 10) scLaw.nd rfl (.inl rfl) (pe_callTy call_tuple_of (by rfl) B.tuple (by decide +kernel) (pa_cons (pe_lc (own := [("_law_hold_here", 14)]) (g := gName 14) (tt := tYes) (te := tCB (fun xs H Q => ∃ p ys, xs = [V.ref p] ∧ ((SqL K H p ys ∧ ∀ l, H l = none → Q (.ref l) (upd H l (.tup ys))) ∨ (SqT K H p ys ∧ Q (.ref p) H))) (tCons (tLc (iTup K (tVar 6)) (gName 13) tYes (tOp (rIxT K) (tVar 14) (tVar 13)) [13]) tNil)) rfl scLaw.nd (pi_tup (pv 3))
        (blkOk_by (own := [("_law_hold_here", 14)]) (N := NL) (sc := defScope sLaw) (by decide +kernel)) (fun _ _ _ _ _ => pg_name (i := 14) scLaw.nd rfl (Or.inr rfl)) (fun _ _ _ _ _ => pts_nil)
        (fun _ _ _ _ _ => (pe_callTy call_tuple_of (by rfl) B.tuple (by decide +kernel) (pa_cons (pe_lc (own := [("_law_good", 13)]) (g := gName 13) (tt := tYes) rfl scLaw.nd (pi_tup (pv 6))
        (blkOk_by (own := [("_law_good", 13)]) (N := NL) (sc := scLaO) (by decide +kernel)) (fun _ _ _ _ _ => pg_name (i := 13) scLaw.nd rfl (Or.inl rfl)) (fun _ _ _ _ _ => pts_nil)
        (fun _ _ _ _ _ => (pe_ix (r := rIxT K) ix_tup (pv 14) (pv 13) (fun _ _ => rfl)))) pa_nil)))) pa_nil)))
      (pss_cons (ps_set (i := 11) scLaw.nd rfl (.inl rfl) (pe_call GFL (hr.mono (by decide)) (by rfl) gFL kFL bFL .nil pass0 (pa_cons (pv 10) pa_nil)))
      (pss_one (ps_set (i := 9) scLaw.nd rfl (.inl rfl) (pe_ifExp (pt_cmpR op_isN (pv 11) pe_non (nomark _)) (pe_tup (pa_cons pe_str (pa_cons pe_non pa_nil))) (pe_tup (pa_cons pe_str (pa_cons (pv 11) pa_nil)))))))))
      (pss_cut (ps_if (pt_not (pt_val (pe_call GS (hr.mono (by decide)) (by rfl) gS kS bS .nil pass0 (pa_cons (pe_lamcall (k := 6) (T := [(Pt, qLam)]) (TT := TT2 C CG) (t := (fun E => tCall (spSeen C CG) [] E (tCons (tVar 3) (tCons (tVar 6) tNil)))) (by rfl) gTold kTold lkT cdT bT scTold rfl (.inl rfl) (tl rfl rfl) TB rfl List.mem_cons_self (fun p hp _ => by rw [List.mem_singleton.mp hp]; rfl) hr (lamS_by (sc := defScope sLaw) (by decide +kernel)) rfl (fun _ _ _ _ _ => rfl)
              (fun A outer s H E f c' hr2 => pe_call GSe (hr2.mono (by decide)) (by rfl) gSe kSe bSe .nil (passes_call (takes_of rfl rfl rfl rfl) (fun _ _ _ _ h => h)) (pa_cons (pv 3) (pa_cons (pv 6) pa_nil)))) (pa_cons (pv 9) pa_nil))))) pss_never pss_nil)
      (pss_cut (ps_if (PW.pt (pw_and (pt_cmpR op_eq (pe_ix ix_tup (pv 9) pe_int (fun _ _ => rfl)) pe_str (nomark _)) (pw_and1 (pt_not (pt_val (pe_call GS (hr.mono (by decide)) (by rfl) gS kS bS .nil pass0 (pa_cons (pe_kw0 GSe (hr.mono (by decide)) (by rfl) gSe kSe kb1 passL (pk_cons (pv 6) (pk_cons (pv 3) pk_nil))) (pa_cons (pv 10) pa_nil)))))))) pss_never pss_nil)
      (pss_cons (ps_set (i := 12) scLaw.nd rfl (.inl rfl) (pe_call GBL (hr.mono (by decide)) (by rfl) gBL kBL bBL .nil pass0 (pa_cons (pv 3) (pa_cons (pv 4) pa_nil))))
      (pss_cons (ps_set (i := 11) scLaw.nd rfl (.inl rfl) (pe_call GFL (hr.mono (by decide)) (by rfl) gFL kFL bFL .nil pass0 (pa_cons (pv 12) pa_nil)))
      (pss_cons (ps_set (i := 9) scLaw.nd rfl (.inl rfl) (pe_ifExp (pt_cmpR op_isN (pv 11) pe_non (nomark _)) (pe_tup (pa_cons pe_str (pa_cons pe_non pa_nil))) (pe_tup (pa_cons pe_str (pa_cons (pv 11) pa_nil)))))
      (pss_cut (ps_if (pt_not (pt_val (pe_call GS (hr.mono (by decide)) (by rfl) gS kS bS .nil pass0 (pa_cons (pe_lamcall (k := 6) (T := [(Pt, qLam)]) (TT := TT2 C CG) (t := (fun E => tCall (spBeside C) [] E (tCons (tVar 3) (tCons (tVar 4) tNil)))) (by rfl) gTold kTold lkT cdT bT scTold rfl (.inl rfl) (tl rfl rfl) TB rfl List.mem_cons_self (fun p hp _ => by rw [List.mem_singleton.mp hp]; rfl) hr (lamS_by (sc := defScope sLaw) (by decide +kernel)) rfl (fun _ _ _ _ _ => rfl)
              (fun A outer s H E f c' hr2 => pe_call GBs (hr2.mono (by decide)) (by rfl) gBs kBs bBs .nil (passes_call (takes_of rfl rfl rfl rfl) (fun _ _ _ _ h => h)) (pa_cons (pv 3) (pa_cons (pv 4) pa_nil)))) (pa_cons (pv 9) pa_nil))))) pss_never pss_nil)
      (pss_one (ps_if (PW.pt (pw_and (pt_cmpR op_isN (pv 11) pe_non (nomark _)) (pw_and1 (pt_not (pt_val (pe_call GS (hr.mono (by decide)) (by rfl) gS kS bS .nil pass0 (pa_cons (pe_call GBs (hr.mono (by decide)) (by rfl) gBs kBs bBs .nil passL (pa_cons (pv 3) (pa_cons (pv 4) pa_nil))) (pa_cons (pv 12) pa_nil)))))))) pss_never pss_nil))))))))))))))))))
      (pss_one (ps_ret pe_bl)))), ?_⟩
      refine ⟨.ref a, rfl, a, ns, rfl, hS, hlen, fun H1 fe cf s1 nf F1 => ?_⟩
      refine ⟨5, rfl, by decide, by decide, ?_⟩
      refine for_range (lo := 0) (n := 5) (fun i σ H' => (∃ y2 y3 y4 y5 y6 y7 y8 y9 y10 y11 y12, σ = [some (.ref a), some (.ref fe), y2, y3, y4, y5, y6, y7, y8, y9, y10, y11, y12, none, none]) ∧ FeedAt cf H' fe ∧ Tabs [(Pt, qLam)] H')
        ⟨⟨none, none, none, none, none, none, none, none, none, none, none, rfl⟩, F1, hT.ext s1⟩ (fun i σ H2 hi ⟨⟨y2, y3, y4, y5, y6, y7, y8, y9, y10, y11, y12, eσ⟩, F2, T2⟩ => ?_) (fun σ H2 _ => q H2)
      subst eσ
      -- two lots
      refine ⟨fun σ' H' => ∃ p1 p2 as1 as2 l1 l2, (∃ y2 y5 y6 y7 y8 y9 y10 y11 y12, σ' = [some (.ref a), some (.ref fe), y2, some (.ref p1), some (.ref p2), y5, y6, y7, y8, y9, y10, y11, y12, none, none]) ∧ S2 cf fe Pt p1 p2 as1 as2 l1 l2 H' ∧ flaw l1 = none ∧ flaw l2 = none, ?_, ?_⟩
      · refine ⟨.ref fe, rfl, fe, cf, rfl, F2, fun H3 p1 l1 g m k3 F3 _ ⟨as1, hp1, hR1⟩ g1 g2 m1 m2 gl1 => ?_⟩
        refine ⟨.ref fe, rfl, fe, cf, rfl, F3, fun H4 p2 l2 g' m' k4 F4 _ ⟨as2, hp2, hR2⟩ g1' g2' m1' m2' gl2 => ?_⟩
        refine ⟨sz_2 _ _, fun t nt => ?_⟩
        have st := same_new (o := .tup [.ref p1, .ref p2]) nt
        refine ⟨t, _, rfl, SqT.of upd_same, rfl, _, _, rfl, _, _, rfl, rfl, ?_⟩
        have R1 : RowsAt H3 p1 as1 l1 := ⟨hp1, hR1⟩
        have R2 : RowsAt H4 p2 as2 l2 := ⟨hp2, hR2⟩
        have T4 := tabs_kp (tabs_kp T2 F2 k3) F3 k4
        exact ⟨p1, p2, as1, as2, l1, l2, ⟨_, _, _, _, _, _, _, _, _, rfl⟩, (S2.mk F4 T4 (R1.kp F3 k4) R2).same st, good_flaw g1 g2 m2 gl1, good_flaw g1' g2' m2' gl2⟩
      rintro σ' H5 ⟨p1, p2, as1, as2, l1, l2, ⟨y2, y5, y6, y7, y8, y9, y10, y11, y12, rfl⟩, X5, ef1, ef2⟩
      have hok1 := flaw_ok ef1
      have hok2 := flaw_ok ef2
      have hr1 := flaw_rows ef1
      have hr2 := flaw_rows ef2
      have hlen1 := X5.R1.2.len
      have hz1 : ∀ r ∈ l1, r.length ≤ 100 := fun r hr => by have := (hr1 r hr).1; omega
      obtain ⟨a0, ha0, hh0, hw⟩ := X5.R1.2.head hok1.1
      have at0 : atI (as1.map V.ref) 0 = some (.ref a0) := atI_nat (j := 0) (by rw [List.getElem?_map, ha0]; rfl)
      refine ⟨.ref p1, rfl, p1, _, 0, .ref a0, rfl, rfl, SqT.of X5.R1.1, at0, a0, _, rfl, .inr (SqT.of hh0), ?_⟩
      rw [List.length_map, hw]
      -- goods of the first
      refine ⟨fun σ' H' => ∃ (g : Addr) (gs : List Int), (∃ y2 y7 y8 y9 y10 y11 y12, σ' = [some (.ref a), some (.ref fe), y2, some (.ref p1), some (.ref p2), some (.int (width l1 : Nat)), some (.ref g), y7, y8, y9, y10, y11, y12, none, none]) ∧ S2 cf fe Pt p1 p2 as1 as2 l1 l2 H' ∧ IntsAt H' g gs ∧ 1 ≤ gs.length ∧ gs.length ≤ 3, ?_, ?_⟩
      · refine ⟨.ref fe, rfl, .int (width l1 : Nat), rfl, _, rfl, RgOk.of_le (by omega) (by omega) (by omega) (by omega), fun l7 nl7 => ?_⟩
        rw [rgV_eq]
        have s6 := same_new (o := .lst ((rgI (width l1)).map V.int)) nl7
        have X6 := X5.same s6
        refine ⟨fe, cf, l7, rgI (width l1), rfl, X6.F, upd_same, X5.F.ne nl7, by rw [rgI_len]; omega, fun H7 l8 ks k7 F7 hl8 pm => ?_⟩
        have X7 := X6.kp k7 F7
        have hkl : ks.length = width l1 := by rw [pm.length_eq, rgI_len]
        refine ⟨.ref fe, rfl, .int (width l1 : Nat), rfl, fe, cf, _, rfl, by omega, by omega, X7.F, fun d H8 d0 d1 k8 F8 => ?_⟩
        have X8 := X7.kp k8 F8
        have hl8' : l8 ≠ fe := fun e => by
          obtain ⟨ns, i, b, m, n, h1, _⟩ := F7
          rw [e, h1] at hl8
          exact ref_ne (HO.lst.inj (Option.some.inj hl8))
        have hl9 := k8 _ _ hl8' hl8
        have en : (1 : Int) + d = ((1 + d).toNat : Nat) := by omega
        refine ⟨1, d, rfl, rfl, _, rfl, l8, _, rfl, SqL.of hl9, fun l10 nl10 => ?_⟩
        rw [en, cut_to, ← List.map_take]
        have s9 := same_new (o := .lst ((ks.take (1 + d).toNat).map V.int)) nl10
        refine ⟨l10, _, rfl, .inl ⟨SqL.of upd_same, fun g ng => ?_⟩⟩
        have s10 := same_new (o := .tup ((ks.take (1 + d).toNat).map V.int)) ng
        refine ⟨g, ks.take (1 + d).toNat, ⟨_, _, _, _, _, _, _, rfl⟩, X8.same (s9.trans s10), upd_same, ?_, ?_⟩
        · rw [List.length_take]
          omega
        · rw [List.length_take]
          omega
      rintro σ' H6 ⟨g, gs, ⟨y2, y7, y8, y9, y10, y11, y12, rfl⟩, X6, G6, gl1, gl2⟩
      refine ⟨fun σ' H' => ∃ (g : Addr) (gs : List Int), (∃ y2 y7 y8 y9 y10 y11 y12, σ' = [some (.ref a), some (.ref fe), y2, some (.ref p1), some (.ref p2), some (.int (width l1 : Nat)), some (.ref g), y7, y8, y9, y10, y11, y12, none, none]) ∧ S2 cf fe Pt p1 p2 as1 as2 l1 l2 H' ∧ IntsAt H' g gs ∧ gs.length ≤ 4, ?_, ?_⟩
      · refine ⟨.ref fe, rfl, fe, cf, 3, rfl, by decide, by decide, X6.F, fun d H7 _ _ k7 F7 => ?_⟩
        have X7 := X6.kp k7 F7
        have G7 := G6.kp X6.F k7
        refine ⟨rfl, _, rfl, ite2 (fun _ => ?_) (fun _ => ⟨g, gs, ⟨_, _, _, _, _, _, _, rfl⟩, X7, G7, by omega⟩)⟩
        refine ⟨.ref g, rfl, .ref fe, rfl, .ref g, rfl, g, _, 0, _, rfl, rfl, SqT.of G7, at_int (by decide) (by omega), .int (width l1 : Nat), rfl, 1, rfl, 10, 20, rfl, rfl, ⟨by decide, by decide, by decide⟩, (by show 4 ≤ sizeLine; decide), fun l8 nl8 => ?_⟩
        have X8 := fun o => X7.same (same_new (o := o) nl8)
        refine ⟨fe, cf, l8, _, rfl, upd_same, X7.F.ne nl8, (by show 1 ≤ 4; decide), (by show 4 ≤ 1000; decide), (X8 _).F, fun v H9 hv k9 F9 => ?_⟩
        have X9 := (X8 _).kp k9 F9
        have G9 := (G7.same (same_new nl8)).kp (X8 _).F k9
        obtain ⟨z, rfl⟩ : ∃ z : Int, v = .int z := by
          simp only [List.mem_cons, List.mem_nil_iff, or_false] at hv
          rcases hv with h | h | h | h
          · exact ⟨_, h⟩
          · exact ⟨_, h⟩
          · exact ⟨_, h⟩
          · exact ⟨_, h⟩
        refine ⟨sz_1 _, fun t nt => ?_⟩
        have st := same_new (o := .tup [.int z]) nt
        refine cat_ints (ys := [z]) (G9.same st) (show IntsAt _ t [z] from upd_same) (by rw [List.length_singleton]; omega) fun g' H10 s10 hg' => ?_
        exact ⟨g', gs ++ [z], ⟨_, _, _, _, _, _, _, rfl⟩, X9.same (st.trans s10), hg', by rw [List.length_append, List.length_singleton]; omega⟩
      clear X6 G6 gl1 gl2
      rintro σ' H6 ⟨g, gs, ⟨y2, y7, y8, y9, y10, y11, y12, rfl⟩, X6, G6, gl2⟩
      refine ⟨fun σ' H' => ∃ (g : Addr) (gs : List Int), (∃ y2 y7 y8 y9 y10 y11 y12, σ' = [some (.ref a), some (.ref fe), y2, some (.ref p1), some (.ref p2), some (.int (width l1 : Nat)), some (.ref g), y7, y8, y9, y10, y11, y12, none, none]) ∧ S2 cf fe Pt p1 p2 as1 as2 l1 l2 H' ∧ IntsAt H' g gs ∧ gs.length ≤ 4, ?_, ?_⟩
      · refine ⟨.ref fe, rfl, fe, cf, 8, rfl, by decide, by decide, X6.F, fun d H7 _ _ k7 F7 => ?_⟩
        have X7 := X6.kp k7 F7
        have G7 := G6.kp X6.F k7
        refine ⟨rfl, _, rfl, ite2 (fun _ => ?_) (fun _ => ⟨g, gs, ⟨_, _, _, _, _, _, _, rfl⟩, X7, G7, by omega⟩)⟩
        exact ⟨Nat.zero_le _, fun t nt => ⟨t, [], ⟨_, _, _, _, _, _, _, rfl⟩, X7.same (same_new nt), upd_same, by decide⟩⟩
      clear X6 G6 gl2
      rintro σ' H6 ⟨g, gs, ⟨y2, y7, y8, y9, y10, y11, y12, rfl⟩, X6, G6, gl2⟩
      -- the odd ones
      refine ⟨Nat.zero_le _, fun D nD => ?_⟩
      have sD := same_new (o := .lst []) nD
      have nDf : D ≠ fe := X6.F.ne nD
      have nDc : D ≠ cf := X6.F.neC nD
      have X7 := X6.same sD
      have G7 := G6.same sD
      refine ⟨.ref g, rfl, g, _, rfl, .inr (SqT.of G7), _, rfl, by omega, by rw [List.length_map]; omega, ?_⟩
      rw [List.length_map]
      refine for_range (lo := 0) (n := ((gs.length : Nat) : Int).toNat) (fun i σ H' => (∃ y2 y8 y9 y10 y11 y12, σ = [some (.ref a), some (.ref fe), y2, some (.ref p1), some (.ref p2), some (.int (width l1 : Nat)), some (.ref g), some (.ref D), y8, y9, y10, y11, y12, none, none]) ∧ S2 cf fe Pt p1 p2 as1 as2 l1 l2 H' ∧ IntsAt H' g gs ∧ H' D = some (.lst (((odds (width l1) gs i).map fun j => gs.getD j 0).map V.int)))
        ⟨⟨_, _, _, _, _, _, rfl⟩, X7, G7, upd_same⟩ (fun i σ H' hi ⟨⟨y2, y8, y9, y10, y11, y12, eσ⟩, X8, G8, hD⟩ => ?_) (fun σ H' ⟨⟨y2, y8, y9, y10, y11, y12, eσ⟩, X8, G8, hD⟩ => ?_)
      · subst eσ
        have hi' : i < gs.length := by omega
        have ez : (0 : Int) + (i : Nat) = ((i : Nat) : Int) := by omega
        rw [ez]
        have hcnt : (odds (width l1) gs i).length ≤ i := by
          unfold odds
          exact Nat.le_trans (List.length_filter_le _ _) (by rw [List.length_range]; exact Nat.le_refl _)
        have at_ := at_int (ns := gs) (i := (i : Nat)) (by omega) (by omega)
        rw [Int.toNat_natCast] at at_
        refine ⟨.ref g, rfl, .int (i : Nat), rfl, g, _, (i : Nat), _, rfl, rfl, SqT.of G8, at_, 0, _, rfl, rfl, _, rfl, chainF (j := (width l1 : Nat)) (fun Q' hq => ⟨_, rfl, hq⟩) ?_⟩
        refine ite2 (fun c => iteT ?_) (fun c => ?_)
        · have c' : ¬ (0 ≤ gs.getD i 0 ∧ gs.getD i 0 < (width l1 : Int)) := fun z => by rw [decide_eq_true z] at c; cases c
          have ho : oddB (width l1) gs i = true := by
            unfold oddB
            rw [decide_eq_false c']
            rfl
          refine ⟨.ref D, rfl, .inl ⟨rfl, _, SqL.of hD⟩, .ref g, rfl, .int (i : Nat), rfl, g, _, (i : Nat), _, rfl, rfl, SqT.of G8, at_, D, _, _, rfl, rfl, hD, ?_, ⟨_, _, _, _, _, _, rfl⟩, X8.put hD nDf nDc, G8.lput hD, ?_⟩
          · rw [List.length_map, List.length_map]
            exact small1000 (by omega)
          · rw [upd_same, odds_step, if_pos ho, List.map_append, List.map_append]
            rfl
        · have c' : 0 ≤ gs.getD i 0 ∧ gs.getD i 0 < (width l1 : Int) := by
            by_cases z : 0 ≤ gs.getD i 0 ∧ gs.getD i 0 < (width l1 : Int)
            · exact z
            · rw [decide_eq_false z] at c
              exact absurd rfl c
          refine ⟨.ref g, rfl, .int (i : Nat), rfl, g, _, (i : Nat), _, rfl, rfl, SqT.of G8, at_, .ref g, rfl, .int (i : Nat), rfl, (i : Nat), rfl, slice_toI G8 fun z H9 s9 hz => ?_⟩
          have X9 := X8.same s9
          have G9 := G8.same s9
          have hD9 := s9 _ _ hD
          refine ⟨z, _, rfl, .inr (SqT.of hz), rfl, flat_ints _, _, rfl, ?_⟩
          rw [if_neg (by decide), inV_ints]
          have eo : oddB (width l1) gs i = (gs.take i).contains (gs.getD i 0) := by
            unfold oddB
            rw [decide_eq_true c']
            rfl
          refine ite2 (fun d => ?_) (fun d => ?_)
          · refine ⟨.ref D, rfl, .inl ⟨rfl, _, SqL.of hD9⟩, .ref g, rfl, .int (i : Nat), rfl, g, _, (i : Nat), _, rfl, rfl, SqT.of G9, at_, D, _, _, rfl, rfl, hD9, ?_, ⟨_, _, _, _, _, _, rfl⟩, X9.put hD9 nDf nDc, G9.lput hD9, ?_⟩
            · rw [List.length_map, List.length_map]
              exact small1000 (by omega)
            · rw [upd_same, odds_step, if_pos (eo.trans d), List.map_append, List.map_append]
              rfl
          · refine ⟨⟨_, _, _, _, _, _, rfl⟩, X9, G9, ?_⟩
            rw [hD9, odds_step, if_neg (by rw [eo]; exact d), List.append_nil]
      subst eσ
      rw [Int.toNat_natCast] at hD
      refine ⟨sz_2 _ _, fun t0 nt0 => ⟨Nat.zero_le _, fun t1 nt1 => ⟨sz_2 _ _, fun t2 nt2 => ⟨t2, _, rfl, SqT.of upd_same, rfl, _, _, rfl, _, _, rfl, rfl, ?_⟩⟩⟩⟩
      have s01 := (same_new (o := .tup [.str "none", .non]) nt0).trans ((same_new (o := .tup []) nt1).trans (same_new (o := .tup [.ref t0, .ref t1]) nt2))
      have X9 := X8.same s01
      have G9 := G8.same s01
      have hD9 := s01 _ _ hD
      clear X8 G8 hD X7 G7 X6 G6
      have hsr := seen_rows (gs := gs) hok1.1 hr1
      have slen : (seenLot gs l1).length = l1.length := by unfold seenLot; rw [List.length_map]
      have s100 : ∀ r ∈ seenLot gs l1, r.length ≤ 100 := map_len fun r _ => by unfold seenRow; rw [List.length_map]; omega
      -- what is due of seen
      refine ⟨fun σ' H' => ∃ td lt : Addr, (∃ y2 y5 y7 y8 y11 y12, σ' = [some (.ref a), some (.ref fe), y2, some (.ref p1), some (.ref p2), y5, some (.ref g), y7, y8, some (.ref td), some (.ref lt), y11, y12, none, none]) ∧ S2 cf fe Pt p1 p2 as1 as2 l1 l2 H' ∧ IntsAt H' g gs ∧ H' td = some (.tup (pairV (outSeen l1 gs))) ∧ ((outSeen l1 gs).1 = .no → flaw (seenLot gs l1) = none ∧ odds (width l1) gs gs.length = [] ∧ ∃ as', RowsAt H' lt as' (seenLot gs l1)), ?_, ?_⟩
      · refine ⟨.ref D, rfl, Nat.zero_le _, fun l nl => ?_⟩
        have s10 := same_new (o := .lst []) nl
        refine ⟨.list _, .list (([] : List Int).map PyData.int), .lst (SqL.of (s10 _ _ hD9)) (dp_ints _), .lst (SqL.of upd_same) .nil, shaped_lst _, shaped_lst [], _, rfl, ?_⟩
        rw [eqv_list]
        have X10 := X9.same s10
        have G10 := G9.same s10
        have hD10 := s10 _ _ hD9
        cases eo : odds (width l1) gs gs.length with
        | cons j js =>
          rw [eo] at hD10
          have eS : outSeen l1 gs = (.go, .int (gs.getD j 0)) := by
            unfold outSeen
            rw [eo]
            rfl
          refine iteT ⟨.ref D, rfl, D, _, 0, .int (gs.getD j 0), rfl, rfl, SqL.of hD10, atI_nat (j := 0) rfl, sz_2 _ _, fun t nt => ?_⟩
          refine ⟨t, t1, ⟨_, _, _, _, _, _, rfl⟩, X10.same (same_new nt), G10.same (same_new nt), ?_, fun z => ?_⟩
          · rw [eS]
            exact upd_same
          · rw [eS] at z
            cases z
        | nil =>
          have eS : outSeen l1 gs = outK (flaw (seenLot gs l1)) := by
            unfold outSeen
            rw [eo]
            rfl
          have hin := odds_in eo
          refine iteF ⟨.ref p1, rfl, p1, rfl, ⟨_, SqT.of X10.R1.1⟩, fun E1 nE1 => ?_⟩
          refine lc_tup (K := K) (a := p1) (xs := as1.map V.ref) (PvR _ E1 (seenRow gs) l1) (PvR.start nE1) (fun i H2 _ hP => SqT.of (X10.R1.same hP.1).1) (row_turn (seenRow gs) X10.R1 nE1 (by omega) (fun _ => rfl) fun b r H2 Q' hr s2 hb hq => ?_) (fun H11 hP => ?_)
          · have rl := (hr1 r hr).1
            have hG2 := G10.same s2
            refine ⟨.ref g, rfl, g, rfl, ⟨_, SqT.of hG2⟩, fun D2 nD2 => ?_⟩
            refine lc_tup (K := K) (a := g) (xs := gs.map V.int) (fun j H3 => Same H2 H3 ∧ H3 D2 = some (.lst ((seenRow (gs.take j) r).map V.int))) ⟨same_new nD2, upd_same⟩ (fun j H3 _ hP => SqT.of (hG2.same hP.1)) (fun j x H3 hx ⟨s3, hD2⟩ => ?_) (fun H3 ⟨s3, hD2⟩ => ?_)
            · obtain ⟨z, hz, rfl⟩ : ∃ n, gs[j]? = some n ∧ x = V.int n := by
                rw [List.getElem?_map] at hx
                cases e : gs[j]? with
                | none => rw [e] at hx; cases hx
                | some n => rw [e] at hx; exact ⟨n, rfl, (Option.some.inj hx).symm⟩
              have hzz := hin z (List.mem_of_getElem? hz)
              refine ⟨rfl, yes (iteT ?_)⟩
              refine ⟨.ref b, rfl, .int z, rfl, b, _, z, _, rfl, rfl, SqT.of (hb.same s3), at_int hzz.1 (by omega), _, hD2, ?_, same_late s3 nD2, ?_⟩
              · rw [List.length_map]
                unfold seenRow
                rw [List.length_map, List.length_take]
                exact small1000 (by omega)
              · rw [upd_same, List.take_add_one, hz]
                unfold seenRow
                rw [List.map_append, List.map_append]
                rfl
            · rw [List.length_map, List.take_length] at hD2
              exact ⟨D2, _, rfl, .inl ⟨SqL.of hD2, fun t nt => hq t _ (s3.trans (same_new nt)) upd_same⟩⟩
          obtain ⟨s11, bs, hE1, hB⟩ := hP.fin hlen1
          refine ⟨E1, _, rfl, .inl ⟨SqL.of hE1, fun lt nlt => ?_⟩⟩
          have s12 := s11.trans (same_new (o := .tup (bs.map V.ref)) nlt)
          have R12 : RowsAt (upd H11 lt (.tup (bs.map V.ref))) lt bs (seenLot gs l1) := ⟨upd_same, hB.same (same_new nlt)⟩
          refine ⟨.ref lt, rfl, lt, bs, seenLot gs l1, rfl, R12, by omega, by omega, fun r hr => ⟨s100 r hr, (hsr r hr).2⟩, fun H13 s13 => ?_⟩
          rw [flawL_eq hsr]
          refine ⟨_, rfl, rfl, _, rfl, due_read (fun Q' hq => ⟨_, rfl, hq⟩) fun td ntd => ?_⟩
          have s14 := s12.trans (s13.trans (same_new (o := .tup (pairV (outK (flaw (seenLot gs l1))))) ntd))
          refine ⟨td, lt, ⟨_, _, _, _, _, _, rfl⟩, X10.same s14, G10.same s14, ?_, fun z => ⟨?_, rfl, bs, R12.same (s13.trans (same_new ntd))⟩⟩
          · rw [eS]
            exact upd_same
          · rw [eS] at z
            cases e : flaw (seenLot gs l1) with
            | none => rfl
            | some k => rw [e] at z; cases z
      rintro σ' H10 ⟨td, lt, ⟨y2, y5, y7, y8, y11, y12, rfl⟩, X10, G10, htd, hno⟩
      clear X9 G9 hD9 X5
      -- seen, told
      refine ⟨fun σ' H' => (∃ y2 y5 y7 y8 y11 y12, σ' = [some (.ref a), some (.ref fe), y2, some (.ref p1), some (.ref p2), y5, some (.ref g), y7, y8, some (.ref td), some (.ref lt), y11, y12, none, none]) ∧ S2 cf fe Pt p1 p2 as1 as2 l1 l2 H' ∧ IntsAt H' g gs ∧ H' td = some (.tup (pairV (outSeen l1 gs))) ∧ ((outSeen l1 gs).1 = .no → flaw (seenLot gs l1) = none ∧ odds (width l1) gs gs.length = [] ∧ ∃ as', RowsAt H' lt as' (seenLot gs l1)), ?_, ?_⟩
      · refine told_ask (outSeen l1 gs) outSeen_no X10.T (fun H5 H6 Qn E e5 s6 hOut => ⟨.ref p1, rfl, .ref g, rfl, nilA (seen_out ((X10.R1.ext e5).same s6) ((G10.ext e5).same s6) (by omega) ef1 hOut)⟩) fun H5 H6 t e5 T5 s6 ht => ?_
        have htd6 := s6 _ _ (e5 _ _ htd (fun ps z => by cases z))
        refine ⟨.ref td, rfl, .ref t, .ref td, rfl, eqd_tup (d := 1) ht htd6 (by show 2 ≤ 1000; decide) (pair_leaf (outSeen_leaf _ _)), fun H7 s7 => ⟨_, rfl, iteF ?_⟩⟩
        refine ⟨⟨_, _, _, _, _, _, rfl⟩, ((X10.ext e5 T5).same s6).same s7, ((G10.ext e5).same s6).same s7, s7 _ _ htd6, fun z => ?_⟩
        obtain ⟨z1, z2, as', z3⟩ := hno z
        exact ⟨z1, z2, as', ((z3.ext e5).same s6).same s7⟩
      clear X10 G10 htd hno
      rintro σ' H10 ⟨⟨y2, y5, y7, y8, y11, y12, rfl⟩, X10, G10, htd, hno⟩
      refine ⟨fun σ' H' => (∃ y2 y5 y6 y7 y8 y9 y10 y11 y12, σ' = [some (.ref a), some (.ref fe), y2, some (.ref p1), some (.ref p2), y5, y6, y7, y8, y9, y10, y11, y12, none, none]) ∧ S2 cf fe Pt p1 p2 as1 as2 l1 l2 H', ?_, ?_⟩
      · refine ⟨.ref td, rfl, td, _, 0, .str (outSeen l1 gs).1.s, rfl, rfl, SqT.of htd, atI_nat (j := 0) rfl, rfl, _, rfl, ?_⟩
        rw [wd_no]
        refine ite2 (fun c => ?_) (fun c => ⟨⟨_, _, _, _, _, _, _, _, _, rfl⟩, X10⟩)
        obtain ⟨z1, z2, as', z3⟩ := hno (of_decide_eq_true c)
        refine ⟨.ref g, rfl, .ref p1, rfl, rfl, rfl, p1, g, as1, l1, gs, rfl, X10.R1, G10, by omega, ef1, (fun i hi => by rw [z2] at hi; cases hi), fun _ => ⟨(fun k hk => by rw [z1] at hk; cases hk), fun _ H11 p' bs s11 hp' => ?_⟩⟩
        refine ⟨.ref lt, rfl, .ref p', .ref lt, rfl, eqd_rows hp' (z3.same s11) (by omega) s100, fun H12 s12 => ⟨_, rfl, iteF ?_⟩⟩
        exact ⟨⟨_, _, _, _, _, _, _, _, _, rfl⟩, X10.same (s11.trans s12)⟩
      clear X10 G10 htd hno
      rintro σ' H10 ⟨⟨y2, y5, y6, y7, y8, y9, y10, y11, y12, rfl⟩, X10⟩
      -- beside
      have hbr := bes_row hr1 hr2
      have hbw := bes_width (l2 := l2) hok1.1 hr1
      have hbr' : ∀ r ∈ bes l1 l2, r.length = width (bes l1 l2) ∧ ∀ n ∈ r, 0 ≤ n ∧ n ≤ 6 := fun r hr => by
        rw [hbw]
        exact hbr r hr
      have hb100 : ∀ r ∈ bes l1 l2, r.length ≤ 100 := fun r hr => by have := (hbr r hr).1; omega
      refine ⟨.ref p1, rfl, .ref p2, rfl, p1, p2, as1, as2, l1, l2, rfl, X10.R1, X10.R2, ef1, ef2, fun H11 bo bs s11 hbo => ?_⟩
      refine ⟨.ref bo, rfl, bo, bs, bes l1 l2, rfl, hbo, by rw [bes_len]; omega, by rw [bes_len]; omega, fun r hr => ⟨hb100 r hr, (hbr r hr).2⟩, fun H12 s12 => ?_⟩
      rw [flawL_eq hbr']
      refine ⟨_, rfl, rfl, _, rfl, due_read (fun Q' hq => ⟨_, rfl, hq⟩) fun td2 ntd2 => ?_⟩
      have s13 := s11.trans (s12.trans (same_new (o := .tup (pairV (outK (flaw (bes l1 l2))))) ntd2))
      have X13 := X10.same s13
      have hbo13 := hbo.same (s12.trans (same_new (o := .tup (pairV (outK (flaw (bes l1 l2))))) ntd2))
      refine ⟨fun σ' H' => (∃ y2 y5 y6 y7 y8 y9 y10, σ' = [some (.ref a), some (.ref fe), y2, some (.ref p1), some (.ref p2), y5, y6, y7, y8, y9, y10, some (optV (flaw (bes l1 l2))), some (.ref bo), none, none]) ∧ S2 cf fe Pt p1 p2 as1 as2 l1 l2 H' ∧ RowsAt H' bo bs (bes l1 l2), ?_, ?_⟩
      · refine told_ask (outK (flaw (bes l1 l2))) outK_no X13.T (fun H5 H6 Qn E e5 s6 hOut => ⟨.ref p1, rfl, .ref p2, rfl, nilA (beside_out (CG := CG) ((X13.R1.ext e5).same s6) ((X13.R2.ext e5).same s6) ef1 ef2 hOut)⟩) fun H5 H6 t e5 T5 s6 ht => ?_
        have htd6 := s6 _ _ (e5 _ _ (show (upd H12 td2 (.tup (pairV (outK (flaw (bes l1 l2)))))) td2 = _ from upd_same) (fun ps z => by cases z))
        refine ⟨.ref td2, rfl, .ref t, .ref td2, rfl, eqd_tup (d := 1) ht htd6 (by show 2 ≤ 1000; decide) (pair_leaf (outK_leaf _)), fun H7 s7 => ⟨_, rfl, iteF ?_⟩⟩
        exact ⟨⟨_, _, _, _, _, _, _, rfl⟩, ((X13.ext e5 T5).same s6).same s7, ((hbo13.ext e5).same s6).same s7⟩
      rintro σ' H14 ⟨⟨y2, y5, y6, y7, y8, y9, y10, rfl⟩, X14, B14⟩
      refine ⟨_, rfl, rfl, _, rfl, ?_⟩
      cases eb : flaw (bes l1 l2) with
      | some k => exact iteF ⟨⟨_, _, _, _, _, _, _, _, _, _, _, rfl⟩, X14.F, X14.T⟩
      | none =>
        refine iteT ⟨.ref p1, rfl, .ref p2, rfl, p1, p2, as1, as2, l1, l2, rfl, X14.R1, X14.R2, ef1, ef2, (fun k hk => by rw [eb] at hk; cases hk), fun _ H15 p' cs s15 hp' => ?_⟩
        refine ⟨.ref bo, rfl, .ref p', .ref bo, rfl, eqd_rows hp' (B14.same s15) (by rw [bes_len]; omega) hb100, fun H16 s16 => ⟨_, rfl, iteF ?_⟩⟩
        exact ⟨⟨_, _, _, _, _, _, _, _, _, _, _, rfl⟩, (X14.same (s15.trans s16)).F, (X14.same (s15.trans s16)).T⟩

    obtain ⟨t, h1, h2⟩ := build
    exact ⟨t, h1.nox, h2⟩
end
end HL

namespace HL
open PySem PySem.Spec PyProof.Rows L2
open LamX (Tabs TabS TabB LawAtS)
/-- whether an error of the class T is what an except clause of S takes -/
theorem exm_by {K : PySem.W.Frag} {S T : Addr} {b : Bool} (h1 : PySem.W.subIn K (.ref S) (.type "BaseException") = some true) (h2 : PySem.W.isClsIn K S = true) (h3 : PySem.W.typeIn K (.ref S) = some (.type "type"))
    (h4 : PySem.W.subIn K (.ref T) (.ref S) = some b) : PySem.W.exmOne K (.ref T) (.ref S) = some b := by
  have e1 : (PySem.W.subIn K (.ref S) (.type "BaseException") == some true) = true := by rw [h1] <;> rfl
  have e2 : ((PySem.W.clsIn K S).isSome && PySem.W.typeIn K (.ref S) == some (.type "type")) = true := by
    have h2' : (PySem.W.clsIn K S).isSome = true := h2
    rw [h2', h3] <;> rfl
  show (if (PySem.W.subIn K (.ref S) (.type "BaseException") == some true) = true then (if ((PySem.W.clsIn K S).isSome && PySem.W.typeIn K (.ref S) == some (.type "type")) = true then PySem.W.subIn K (.ref T) (.ref S) else none) else none) = some b
  rw [if_pos e1, if_pos e2]
  exact h4
theorem rev_vals {zs : List V} {ws : List Value} (r : Vals zs ws) : Vals zs.reverse ws.reverse := by
  induction r with
  | nil => exact .nil
  | cons r t ih =>
    rw [List.reverse_cons, List.reverse_cons]
    exact ih.append (.cons r .nil)
theorem all_mk {l : PySem.W.OpenLaw} {w : World} {K : PySem.W.Frag} {h : Heap} {mg : Str → Option Value} {fa : Addr} (X : K.In h) (G : h.Ns mainGlobals mg) (hfa : mg "law" = some (.ref fa))
    {f0 : Addr} {oc0 kV0 dc0 pm0 cd0 ct0 : Value} {od0 an0 : Option Addr} {sl0 : Array (Option Value)}
    {f1 : Addr} {oc1 kV1 dc1 pm1 cd1 ct1 : Value} {od1 an1 : Option Addr} {sl1 : Array (Option Value)}
    {f2 : Addr} {oc2 kV2 dc2 pm2 cd2 ct2 : Value} {od2 an2 : Option Addr} {sl2 : Array (Option Value)}
    {f3 : Addr} {oc3 kV3 dc3 pm3 cd3 ct3 : Value} {od3 an3 : Option Addr} {sl3 : Array (Option Value)}
    {f4 : Addr} {oc4 kV4 dc4 pm4 cd4 ct4 : Value} {od4 an4 : Option Addr} {sl4 : Array (Option Value)}
    {f5 : Addr} {oc5 kV5 dc5 pm5 cd5 ct5 : Value} {od5 an5 : Option Addr} {sl5 : Array (Option Value)}
    {f6 : Addr} {oc6 kV6 dc6 pm6 cd6 ct6 : Value} {od6 an6 : Option Addr} {sl6 : Array (Option Value)}
    {f7 : Addr} {oc7 kV7 dc7 pm7 cd7 ct7 : Value} {od7 an7 : Option Addr} {sl7 : Array (Option Value)}
    {f8 : Addr} {oc8 kV8 dc8 pm8 cd8 ct8 : Value} {od8 an8 : Option Addr} {sl8 : Array (Option Value)}
    {f9 : Addr} {oc9 kV9 dc9 pm9 cd9 ct9 : Value} {od9 an9 : Option Addr} {sl9 : Array (Option Value)}
    {f10 : Addr} {oc10 kV10 dc10 pm10 cd10 ct10 : Value} {od10 an10 : Option Addr} {sl10 : Array (Option Value)}
    {f11 : Addr} {oc11 kV11 dc11 pm11 cd11 ct11 : Value} {od11 an11 : Option Addr} {sl11 : Array (Option Value)}
    {f12 : Addr} {oc12 kV12 dc12 pm12 cd12 ct12 : Value} {od12 an12 : Option Addr} {sl12 : Array (Option Value)}
    {f13 : Addr} {oc13 kV13 dc13 pm13 cd13 ct13 : Value} {od13 an13 : Option Addr} {sl13 : Array (Option Value)}
    {f14 : Addr} {oc14 kV14 dc14 pm14 cd14 ct14 : Value} {od14 an14 : Option Addr} {sl14 : Array (Option Value)}
    {f15 : Addr} {oc15 kV15 dc15 pm15 cd15 ct15 : Value} {od15 an15 : Option Addr} {sl15 : Array (Option Value)}
    {f16 : Addr} {oc16 kV16 dc16 pm16 cd16 ct16 : Value} {od16 an16 : Option Addr} {sl16 : Array (Option Value)}
    {fL cL Pt : Addr} {ocL kVL dcL pmL ctL : Value} {odL anL : Option Addr} {slL : Array (Option Value)}
    {C1 CE1 fI1 N1 : Addr} {nm1 q1 : Str} {bs1 : List Value} {sn1 : List Str} {sub1 : List Value} {ab1 : Bool} {col1 : Option Bool} {dd1 : Option Addr} {m01 m11 m21 m31 m51 : Option Value} {ocI1 kVI1 dcI1 pmI1 cdI1 ctI1 : Value} {odI1 anI1 : Option Addr} {slI1 : Array (Option Value)}
    {C2 CE2 fI2 N2 : Addr} {nm2 q2 : Str} {bs2 : List Value} {sn2 : List Str} {sub2 : List Value} {ab2 : Bool} {col2 : Option Bool} {dd2 : Option Addr} {m02 m12 m22 m32 m52 : Option Value} {ocI2 kVI2 dcI2 pmI2 cdI2 ctI2 : Value} {odI2 anI2 : Option Addr} {slI2 : Array (Option Value)}
    {t6 : Tok}
    {t5 : Tok}
    {t3 : Tok}
    (hTab : h.get? Pt = some (PySem.W.tabObj #[]))
    (a0 : PySem.W.nsIn K mainGlobals "is_hold" = some (some (.ref f0)))
    (l0 : K.lookup f0 = some ⟨oc0, od0, .func (PySem.W.fnOf "is_hold" "is_hold" (defArgs sIsHold) (defBody sIsHold) (defScope sIsHold) .none kV0 dc0 pm0 an0 cd0 ct0), sl0⟩)
    (c0 : PySem.W.codeIn K cd0 "is_hold" = true)
    (k0 : PySem.W.keepIn K (.ref f0) = true)
    (a1 : PySem.W.nsIn K mainGlobals "look_lot" = some (some (.ref f1)))
    (l1 : K.lookup f1 = some ⟨oc1, od1, .func (PySem.W.fnOf "look_lot" "look_lot" (defArgs sLook) (defBody sLook) (defScope sLook) .none kV1 dc1 pm1 an1 cd1 ct1), sl1⟩)
    (c1 : PySem.W.codeIn K cd1 "look_lot" = true)
    (k1 : PySem.W.keepIn K (.ref f1) = true)
    (a2 : PySem.W.nsIn K mainGlobals "goods_of" = some (some (.ref f2)))
    (l2 : K.lookup f2 = some ⟨oc2, od2, .func (PySem.W.fnOf "goods_of" "goods_of" (defArgs sGoods) (defBody sGoods) (defScope sGoods) .none kV2 dc2 pm2 an2 cd2 ct2), sl2⟩)
    (c2 : PySem.W.codeIn K cd2 "goods_of" = true)
    (k2 : PySem.W.keepIn K (.ref f2) = true)
    (a3 : PySem.W.nsIn K mainGlobals "seen" = some (some (.ref f3)))
    (l3 : K.lookup f3 = some ⟨oc3, od3, .func (PySem.W.fnOf "seen" "seen" (defArgs sSeen) (defBody sSeen) (defScope sSeen) .none kV3 dc3 pm3 an3 cd3 ct3), sl3⟩)
    (c3 : PySem.W.codeIn K cd3 "seen" = true)
    (k3 : PySem.W.keepIn K (.ref f3) = true)
    (a4 : PySem.W.nsIn K mainGlobals "beside" = some (some (.ref f4)))
    (l4 : K.lookup f4 = some ⟨oc4, od4, .func (PySem.W.fnOf "beside" "beside" (defArgs sBeside) (defBody sBeside) (defScope sBeside) .none kV4 dc4 pm4 an4 cd4 ct4), sl4⟩)
    (c4 : PySem.W.codeIn K cd4 "beside" = true)
    (k4 : PySem.W.keepIn K (.ref f4) = true)
    (a5 : PySem.W.nsIn K mainGlobals "_law_feed" = some (some (.ref f5)))
    (l5 : K.lookup f5 = some ⟨oc5, od5, .func (PySem.W.fnOf "_law_feed" "_law_feed" (defArgs sFeed) (defBody sFeed) (defScope sFeed) .none kV5 dc5 pm5 an5 cd5 ct5), sl5⟩)
    (c5 : PySem.W.codeIn K cd5 "_law_feed" = true)
    (k5 : PySem.W.keepIn K (.ref f5) = true)
    (a6 : PySem.W.nsIn K mainGlobals "_law_draw" = some (some (.ref f6)))
    (l6 : K.lookup f6 = some ⟨oc6, od6, .func (PySem.W.fnOf "_law_draw" "_law_draw" (defArgs sDraw) (defBody sDraw) (defScope sDraw) .none kV6 dc6 pm6 an6 cd6 ct6), sl6⟩)
    (c6 : PySem.W.codeIn K cd6 "_law_draw" = true)
    (k6 : PySem.W.keepIn K (.ref f6) = true)
    (a7 : PySem.W.nsIn K mainGlobals "_law_pick" = some (some (.ref f7)))
    (l7 : K.lookup f7 = some ⟨oc7, od7, .func (PySem.W.fnOf "_law_pick" "_law_pick" (defArgs sPick) (defBody sPick) (defScope sPick) .none kV7 dc7 pm7 an7 cd7 ct7), sl7⟩)
    (c7 : PySem.W.codeIn K cd7 "_law_pick" = true)
    (k7 : PySem.W.keepIn K (.ref f7) = true)
    (a8 : PySem.W.nsIn K mainGlobals "_law_shuffled" = some (some (.ref f8)))
    (l8 : K.lookup f8 = some ⟨oc8, od8, .func (PySem.W.fnOf "_law_shuffled" "_law_shuffled" (defArgs sShuf) (defBody sShuf) (defScope sShuf) .none kV8 dc8 pm8 an8 cd8 ct8), sl8⟩)
    (c8 : PySem.W.codeIn K cd8 "_law_shuffled" = true)
    (k8 : PySem.W.keepIn K (.ref f8) = true)
    (a9 : PySem.W.nsIn K mainGlobals "_law_same" = some (some (.ref f9)))
    (l9 : K.lookup f9 = some ⟨oc9, od9, .func (PySem.W.fnOf "_law_same" "_law_same" (defArgs sSame) (defBody sSame) (defScope sSame) .none kV9 dc9 pm9 an9 cd9 ct9), sl9⟩)
    (c9 : PySem.W.codeIn K cd9 "_law_same" = true)
    (k9 : PySem.W.keepIn K (.ref f9) = true)
    (a10 : PySem.W.nsIn K mainGlobals "_law_told" = some (some (.ref f10)))
    (l10 : K.lookup f10 = some ⟨oc10, od10, .func (PySem.W.fnOf "_law_told" "_law_told" (defArgs sTold) (defBody sTold) (defScope sTold) .none kV10 dc10 pm10 an10 cd10 ct10), sl10⟩)
    (c10 : PySem.W.codeIn K cd10 "_law_told" = true)
    (k10 : PySem.W.keepIn K (.ref f10) = true)
    (a11 : PySem.W.nsIn K mainGlobals "_law_hold" = some (some (.ref f11)))
    (l11 : K.lookup f11 = some ⟨oc11, od11, .func (PySem.W.fnOf "_law_hold" "_law_hold" (defArgs sHold) (defBody sHold) (defScope sHold) .none kV11 dc11 pm11 an11 cd11 ct11), sl11⟩)
    (c11 : PySem.W.codeIn K cd11 "_law_hold" = true)
    (k11 : PySem.W.keepIn K (.ref f11) = true)
    (a12 : PySem.W.nsIn K mainGlobals "_law_lot" = some (some (.ref f12)))
    (l12 : K.lookup f12 = some ⟨oc12, od12, .func (PySem.W.fnOf "_law_lot" "_law_lot" (defArgs sLot) (defBody sLot) (defScope sLot) .none kV12 dc12 pm12 an12 cd12 ct12), sl12⟩)
    (c12 : PySem.W.codeIn K cd12 "_law_lot" = true)
    (k12 : PySem.W.keepIn K (.ref f12) = true)
    (a13 : PySem.W.nsIn K mainGlobals "_law_any_lot" = some (some (.ref f13)))
    (l13 : K.lookup f13 = some ⟨oc13, od13, .func (PySem.W.fnOf "_law_any_lot" "_law_any_lot" (defArgs sAny) (defBody sAny) (defScope sAny) .none kV13 dc13 pm13 an13 cd13 ct13), sl13⟩)
    (c13 : PySem.W.codeIn K cd13 "_law_any_lot" = true)
    (k13 : PySem.W.keepIn K (.ref f13) = true)
    (a14 : PySem.W.nsIn K mainGlobals "_law_noughts" = some (some (.ref f14)))
    (l14 : K.lookup f14 = some ⟨oc14, od14, .func (PySem.W.fnOf "_law_noughts" "_law_noughts" (defArgs sNoughts) (defBody sNoughts) (defScope sNoughts) .none kV14 dc14 pm14 an14 cd14 ct14), sl14⟩)
    (c14 : PySem.W.codeIn K cd14 "_law_noughts" = true)
    (k14 : PySem.W.keepIn K (.ref f14) = true)
    (a15 : PySem.W.nsIn K mainGlobals "_law_beside" = some (some (.ref f15)))
    (l15 : K.lookup f15 = some ⟨oc15, od15, .func (PySem.W.fnOf "_law_beside" "_law_beside" (defArgs sBesL) (defBody sBesL) (defScope sBesL) .none kV15 dc15 pm15 an15 cd15 ct15), sl15⟩)
    (c15 : PySem.W.codeIn K cd15 "_law_beside" = true)
    (k15 : PySem.W.keepIn K (.ref f15) = true)
    (a16 : PySem.W.nsIn K mainGlobals "_law_flaw" = some (some (.ref f16)))
    (l16 : K.lookup f16 = some ⟨oc16, od16, .func (PySem.W.fnOf "_law_flaw" "_law_flaw" (defArgs sFlawL) (defBody sFlawL) (defScope sFlawL) .none kV16 dc16 pm16 an16 cd16 ct16), sl16⟩)
    (c16 : PySem.W.codeIn K cd16 "_law_flaw" = true)
    (k16 : PySem.W.keepIn K (.ref f16) = true)
    (aL : PySem.W.nsIn K mainGlobals "law" = some (some (.ref fL)))
    (lL : K.lookup fL = some ⟨ocL, odL, .func (PySem.W.fnOf "law" "law" (defArgs sLaw) (defBody sLaw) (defScope sLaw) .none kVL dcL pmL anL (.ref cL) ctL), slL⟩)
    (cdL : PySem.W.codeIn K (.ref cL) "law" = true)
    (nP : K.lookup Pt = none)
    (hd : PySem.W.codeHdIn K cL Pt = true)
    (aC1 : PySem.W.nsIn K mainGlobals "BadLot" = some (some (.ref C1)))
    (xL1 : K.lookup C1 = some (excClassObj nm1 q1 C1 N1 bs1 [.ref CE1, .type "ValueError", .type "Exception", .type "BaseException", .type "object"] true sn1 sub1 ab1 col1 dd1 m01 m11 m21 m31 m51 "ValueError.__new__"))
    (sa1 : PySem.W.findIn K (.ref C1) "__setattr__" = some (some (.builtin "object.__setattr__")))
    (ga1 : PySem.W.findIn K (.ref C1) "__getattribute__" = some (some (.builtin "BaseException.__getattribute__")))
    (gg1 : PySem.W.findIn K (.ref C1) "__getattr__" = some none)
    (nW1 : PySem.W.findIn K (.ref C1) "word" = some none)
    (nF1 : PySem.W.findIn K (.ref C1) "kind" = some none)
    (aI1 : PySem.W.findIn K (.ref C1) "__init__" = some (some (.ref fI1)))
    (tI1 : PySem.W.typeIn K (.ref fI1) = some (.type "function"))
    (lI1 : K.lookup fI1 = some ⟨ocI1, odI1, .func (PySem.W.fnOf "__init__" "BadLot.__init__" (defArgs sBadInit) (defBody sBadInit) (defScope sBadInit) .none kVI1 dcI1 pmI1 anI1 cdI1 ctI1), slI1⟩)
    (cI1 : PySem.W.codeIn K cdI1 "BadLot.__init__" = true)
    (kI1 : PySem.W.keepIn K (.ref fI1) = true)
    (kC1 : PySem.W.keepIn K (.ref C1) = true)
    (eC1 : PySem.W.subIn K (.ref C1) (.type "BaseException") = some true)
    (tC1 : PySem.W.typeIn K (.ref C1) = some (.type "type"))
    (hC1 : PySem.W.hasDictIn K C1 = true)
    (iC1 : PySem.W.isClsIn K C1 = true)
    (aC2 : PySem.W.nsIn K mainGlobals "NoGood" = some (some (.ref C2)))
    (xL2 : K.lookup C2 = some (excClassObj nm2 q2 C2 N2 bs2 [.ref CE2, .type "LookupError", .type "Exception", .type "BaseException", .type "object"] true sn2 sub2 ab2 col2 dd2 m02 m12 m22 m32 m52 "LookupError.__new__"))
    (sa2 : PySem.W.findIn K (.ref C2) "__setattr__" = some (some (.builtin "object.__setattr__")))
    (ga2 : PySem.W.findIn K (.ref C2) "__getattribute__" = some (some (.builtin "BaseException.__getattribute__")))
    (gg2 : PySem.W.findIn K (.ref C2) "__getattr__" = some none)
    (nW2 : PySem.W.findIn K (.ref C2) "word" = some none)
    (nF2 : PySem.W.findIn K (.ref C2) "good" = some none)
    (aI2 : PySem.W.findIn K (.ref C2) "__init__" = some (some (.ref fI2)))
    (tI2 : PySem.W.typeIn K (.ref fI2) = some (.type "function"))
    (lI2 : K.lookup fI2 = some ⟨ocI2, odI2, .func (PySem.W.fnOf "__init__" "NoGood.__init__" (defArgs sNoGoodInit) (defBody sNoGoodInit) (defScope sNoGoodInit) .none kVI2 dcI2 pmI2 anI2 cdI2 ctI2), slI2⟩)
    (cI2 : PySem.W.codeIn K cdI2 "NoGood.__init__" = true)
    (kI2 : PySem.W.keepIn K (.ref fI2) = true)
    (kC2 : PySem.W.keepIn K (.ref C2) = true)
    (eC2 : PySem.W.subIn K (.ref C2) (.type "BaseException") = some true)
    (tC2 : PySem.W.typeIn K (.ref C2) = some (.type "type"))
    (hC2 : PySem.W.hasDictIn K C2 = true)
    (iC2 : PySem.W.isClsIn K C2 = true)
    (s11 : PySem.W.subIn K (.ref C1) (.ref C1) = some true)
    (s21 : PySem.W.subIn K (.ref C2) (.ref C1) = some false)
    (s22 : PySem.W.subIn K (.ref C2) (.ref C2) = some true)
    (v6 : PySem.W.nsIn K mainGlobals "MOST_HOLD" = some (some (.int 6 t6)))
    (v5 : PySem.W.nsIn K mainGlobals "MOST_KINDS" = some (some (.int 5 t5)))
    (v3 : PySem.W.nsIn K mainGlobals "MOST_GOODS" = some (some (.int 3 t3)))
    (z_len : PySem.W.nsIn K mainGlobals "len" = some none)
    (z_list : PySem.W.nsIn K mainGlobals "list" = some none)
    (z_tuple : PySem.W.nsIn K mainGlobals "tuple" = some none)
    (z_dict : PySem.W.nsIn K mainGlobals "dict" = some none)
    (z_str : PySem.W.nsIn K mainGlobals "str" = some none)
    (z_int : PySem.W.nsIn K mainGlobals "int" = some none)
    (z_bool : PySem.W.nsIn K mainGlobals "bool" = some none)
    (z_isinstance : PySem.W.nsIn K mainGlobals "isinstance" = some none)
    (z_all : PySem.W.nsIn K mainGlobals "all" = some none)
    (z_range : PySem.W.nsIn K mainGlobals "range" = some none)
    (z_sum : PySem.W.nsIn K mainGlobals "sum" = some none)
    (z_min : PySem.W.nsIn K mainGlobals "min" = some none)
    (z_max : PySem.W.nsIn K mainGlobals "max" = some none)
    (z_enumerate : PySem.W.nsIn K mainGlobals "enumerate" = some none)
    : LawAtS l w K CX0 9 63 "_law_script" mg fa h := by
  have e := hfa.symm.trans (PySem.W.mg_of X G aL)
  cases e
  have F0 := fun_mk (st := sIsHold) l0 c0 k0
  have b0 := F0.binds (ps := ["hold", "goods"]) fun _ _ _ _ _ _ us hl => match us, hl with | [_, _], _ => rfl
  have g0 := PySem.W.mg_of X G a0
  have F1 := fun_mk (st := sLook) l1 c1 k1
  have b1 := F1.binds (ps := ["lot"]) fun _ _ _ _ _ _ us hl => match us, hl with | [_], _ => rfl
  have g1 := PySem.W.mg_of X G a1
  have F2 := fun_mk (st := sGoods) l2 c2 k2
  have b2 := F2.binds (ps := ["lot"]) fun _ _ _ _ _ _ us hl => match us, hl with | [_], _ => rfl
  have g2 := PySem.W.mg_of X G a2
  have F3 := fun_mk (st := sSeen) l3 c3 k3
  have b3 := F3.binds (ps := ["lot", "goods"]) fun _ _ _ _ _ _ us hl => match us, hl with | [_, _], _ => rfl
  have g3 := PySem.W.mg_of X G a3
  have F4 := fun_mk (st := sBeside) l4 c4 k4
  have b4 := F4.binds (ps := ["one", "other"]) fun _ _ _ _ _ _ us hl => match us, hl with | [_, _], _ => rfl
  have g4 := PySem.W.mg_of X G a4
  have F5 := fun_mk (st := sFeed) l5 c5 k5
  have b5 := F5.binds (ps := ["_law_script"]) fun _ _ _ _ _ _ us hl => match us, hl with | [_], _ => rfl
  have g5 := PySem.W.mg_of X G a5
  have F6 := fun_mk (st := sDraw) l6 c6 k6
  have b6 := F6.binds (ps := ["_law_feed_here", "_law_many"]) fun _ _ _ _ _ _ us hl => match us, hl with | [_, _], _ => rfl
  have g6 := PySem.W.mg_of X G a6
  have F7 := fun_mk (st := sPick) l7 c7 k7
  have b7 := F7.binds (ps := ["_law_feed_here", "_law_row"]) fun _ _ _ _ _ _ us hl => match us, hl with | [_, _], _ => rfl
  have g7 := PySem.W.mg_of X G a7
  have F8 := fun_mk (st := sShuf) l8 c8 k8
  have b8 := F8.binds (ps := ["_law_feed_here", "_law_row"]) fun _ _ _ _ _ _ us hl => match us, hl with | [_, _], _ => rfl
  have g8 := PySem.W.mg_of X G a8
  have F9 := fun_mk (st := sSame) l9 c9 k9
  have b9 := F9.binds (ps := ["_law_found", "_law_due"]) fun _ _ _ _ _ _ us hl => match us, hl with | [_, _], _ => rfl
  have g9 := PySem.W.mg_of X G a9
  have F10 := fun_mk (st := sTold) l10 c10 k10
  have b10 := F10.binds (ps := ["_law_ask"]) fun _ _ _ _ _ _ us hl => match us, hl with | [_], _ => rfl
  have g10 := PySem.W.mg_of X G a10
  have F11 := fun_mk (st := sHold) l11 c11 k11
  have b11 := F11.binds (ps := ["_law_feed_here", "_law_mgoods", "_law_most"]) fun _ _ _ _ _ _ us hl => match us, hl with | [_, _, _], _ => rfl
  have g11 := PySem.W.mg_of X G a11
  have F12 := fun_mk (st := sLot) l12 c12 k12
  have b12 := F12.binds (ps := ["_law_feed_here", "_law_mgoods", "_law_kinds", "_law_most"]) fun _ _ _ _ _ _ us hl => match us, hl with | [_, _, _, _], _ => rfl
  have g12 := PySem.W.mg_of X G a12
  have F13 := fun_mk (st := sAny) l13 c13 k13
  have b13 := F13.binds (ps := ["_law_feed_here"]) fun _ _ _ _ _ _ us hl => match us, hl with | [_], _ => rfl
  have g13 := PySem.W.mg_of X G a13
  have F14 := fun_mk (st := sNoughts) l14 c14 k14
  have b14 := F14.binds (ps := ["_law_many"]) fun _ _ _ _ _ _ us hl => match us, hl with | [_], _ => rfl
  have g14 := PySem.W.mg_of X G a14
  have F15 := fun_mk (st := sBesL) l15 c15 k15
  have b15 := F15.binds (ps := ["_law_one", "_law_other"]) fun _ _ _ _ _ _ us hl => match us, hl with | [_, _], _ => rfl
  have g15 := PySem.W.mg_of X G a15
  have F16 := fun_mk (st := sFlawL) l16 c16 k16
  have b16 := F16.binds (ps := ["_law_mlot"]) fun _ _ _ _ _ _ us hl => match us, hl with | [_], _ => rfl
  have g16 := PySem.W.mg_of X G a16
  have kb1 : KBn K (PySem.W.fnOf "seen" "seen" (defArgs sSeen) (defBody sSeen) (defScope sSeen) .none kV3 dc3 pm3 an3 cd3 ct3) ["lot", "goods"] 0 ["goods", "lot"] (fun _ ws => ws.reverse) (fun _ zs => zs.reverse) := ⟨fun s us ws _ h1 h2 => by
    match us, ws, h1, h2 with
    | [], [w0, w1], _, _ => exact .of_eq rfl, fun _ r => rev_vals r⟩
  have FI1 := fun_mk (st := sBadInit) lI1 cI1 kI1
  have bI1 := FI1.binds (ps := ["self", "kind"]) fun _ _ _ _ _ _ us hl => match us, hl with | [_, _], _ => rfl
  have ox1 : OexC K C1 := ⟨⟨nm1, q1, N1, bs1, _, sn1, sub1, ab1, col1, dd1, m01, m11, m21, m31, m51, xL1, (show PySem.HandSPX.refsVE [.type "ValueError", .type "Exception", .type "BaseException", .type "object"] = true by decide +kernel)⟩, sa1, eC1, tC1, kC1⟩
  have kk1 : Cls2 K C1 "kind" := ⟨ox1, nW1, nF1⟩
  have FI2 := fun_mk (st := sNoGoodInit) lI2 cI2 kI2
  have bI2 := FI2.binds (ps := ["self", "good"]) fun _ _ _ _ _ _ us hl => match us, hl with | [_, _], _ => rfl
  have ox2 : OexB K C2 "LookupError.__new__" [.type "LookupError", .type "Exception", .type "BaseException", .type "object"] := ⟨⟨nm2, q2, N2, bs2, _, sn2, sub2, ab2, col2, dd2, m02, m12, m22, m32, m52, xL2, fun _ => rfl, fun _ => rfl⟩, by decide +kernel, sa2, eC2, tC2, kC2⟩
  have kk2 : Cls2B K C2 "good" := ⟨ox2, nW2, nF2⟩
  have B : Bl mg := ⟨PySem.W.mg_none_of X G z_len, PySem.W.mg_none_of X G z_list, PySem.W.mg_none_of X G z_tuple, PySem.W.mg_none_of X G z_dict, PySem.W.mg_none_of X G z_str, PySem.W.mg_none_of X G z_int, PySem.W.mg_none_of X G z_bool, PySem.W.mg_none_of X G z_isinstance, PySem.W.mg_none_of X G z_all, PySem.W.mg_none_of X G z_range, PySem.W.mg_none_of X G z_sum, PySem.W.mg_none_of X G z_min, PySem.W.mg_none_of X G z_max, PySem.W.mg_none_of X G z_enumerate⟩
  have M : Consts mg := ⟨⟨_, PySem.W.mg_of X G v6⟩, ⟨_, PySem.W.mg_of X G v5⟩, ⟨_, PySem.W.mg_of X G v3⟩⟩
  refine ⟨PySem.W.fnOf "law" "law" (defArgs sLaw) (defBody sLaw) (defScope sLaw) .none kVL dcL pmL anL (.ref cL) ctL, [(cL, Pt)], spLaw K Pt, fun p hp => ?_, fun p hp => ?_, fun p hp => ?_, fun s u => .of_eq rfl, fun H a ns hl _ hH hS => ⟨a, ns, rfl, hS, hl, fun p hp => ?_, fun _ => rfl⟩, fun base KB GB TB => ?_⟩
  · rw [List.mem_singleton.mp hp]; exact hTab
  · rw [List.mem_singleton.mp hp]; exact nP
  · rw [List.mem_singleton.mp hp]; exact PySem.W.codeHd_of_K X hd
  · rw [List.mem_singleton.mp hp]; exact TabS.nil (hH (cL, Pt) List.mem_cons_self)
  · have Tb := TB (cL, Pt) List.mem_cons_self
    have cDraw : Cal l.prog w K mg base CX0 1 "_law_draw" ["_law_feed_here", "_law_many"] spDraw := ⟨⟨f6, _, ok_draw F6 B.len, g6, k6, b6⟩⟩
    have cPick : Cal l.prog w K mg base CX0 2 "_law_pick" ["_law_feed_here", "_law_row"] spPick := ⟨⟨f7, _, ok_pick F7 B.len cDraw, g7, k7, b7⟩⟩
    have cHold : Cal l.prog w K mg base CX0 2 "_law_hold" ["_law_feed_here", "_law_mgoods", "_law_most"] spHold := ⟨⟨f11, _, ok_hold F11 B cDraw, g11, k11, b11⟩⟩
    have cLot : Cal l.prog w K mg base CX0 3 "_law_lot" ["_law_feed_here", "_law_mgoods", "_law_kinds", "_law_most"] spLot := ⟨⟨f12, _, ok_lot F12 B cDraw cHold, g12, k12, b12⟩⟩
    have cIH : Cal l.prog w K mg base CX0 1 "is_hold" ["hold", "goods"] spIsHold := ⟨⟨f0, _, ok_isHold F0 B M, g0, k0, b0⟩⟩
    have bad1 : BadTxt l.prog w K mg base "BadLot" C1 "kind" "bad lot" := ⟨kk1, PySem.W.mg_of X G aC1, fI1, _, aI1, tI1, ok_badInit FI1 kk1, bI1⟩
    have bad2 : BadTxtB l.prog w K mg base "NoGood" C2 "good" "no good" := ⟨kk2, PySem.W.mg_of X G aC2, fI2, _, aI2, tI2, ok_noGoodInit FI2 kk2, bI2⟩
    have cLk : Cal l.prog w K mg base (L2.CX l.prog w) 3 "look_lot" ["lot"] (spLook C1) := ⟨⟨f1, _, ok_look F1 B M bad1 cIH, g1, k1, b1⟩⟩
    have cGo : Cal l.prog w K mg base (L2.CX l.prog w) 4 "goods_of" ["lot"] (spGoods C1) := ⟨⟨f2, _, ok_goods F2 B cLk, g2, k2, b2⟩⟩
    have cNo : Cal l.prog w K mg base CX0 1 "_law_noughts" ["_law_many"] spNoughts := ⟨⟨f14, _, ok_noughts F14, g14, k14, b14⟩⟩
    have T : Txt l.prog w K mg base C1 C2 := {
        B := B
        feed := ⟨⟨f5, _, ok_feed F5 B.list, g5, k5, b5⟩⟩
        draw := cDraw
        pick := cPick
        shuf := ⟨⟨f8, _, ok_shuf F8 B cDraw, g8, k8, b8⟩⟩
        same2 := ⟨⟨f9, _, ok_same F9 B g9 b9 2, g9, k9, b9⟩⟩
        any := ⟨⟨f13, _, ok_any F13 cDraw cPick cLot, g13, k13, b13⟩⟩
        fl := ⟨⟨f16, _, ok_flawL F16 B, g16, k16, b16⟩⟩
        bl := ⟨⟨f15, _, ok_besL F15 B cNo, g15, k15, b15⟩⟩
        bs := ⟨⟨f4, _, ok_beside F4 B cLk cGo, g4, k4, b4⟩⟩
        se := ⟨f3, _, ok_seen F3 B bad2 cLk cGo, g3, k3, b3, kb1⟩
        told := ⟨f10, oc10, od10, kV10, dc10, pm10, an10, cd10, ct10, sl10, g10, k10, l10, c10, b10⟩
        cls := ⟨PySem.W.mg_of X G aC1, PySem.W.mg_of X G aC2, ⟨ga1, gg1, eC1, hC1⟩, ⟨ga2, gg2, eC2, hC2⟩, nF1, nF2, exm_by eC1 iC1 tC1 s11, exm_by eC1 iC1 tC1 s21, exm_by eC2 iC2 tC2 s22⟩ }
    exact ok_law lL cdL T Tb
end HL

open PySem PySem.W PyProof.Rows
set_option maxHeartbeats 0 in
theorem PySem.Challenge.cw_hamperlot_k04_goods_seen_and_lots_beside_holds : PySem.Challenge.rw_hamperlot_k04_goods_seen_and_lots_beside.Holds := by
  w_on; o_law; k_head; (case hw => w_witness2)
  k_fill
  refine LamX.walk_ofTs (l := PySem.Challenge.rw_hamperlot_k04_goods_seen_and_lots_beside) (n := 63) (k := 9) (x := "_law_script") (CX := fun _ => L2.CX0) rfl (by decide) rfl ⟨rfl, by decide, by decide⟩ (fun w h Y => PySem.W.km_in_of Y) ?F (fun _ _ _ _ _ h => h)
  case F =>
    intro w mg fa h Y KX G hmg
    refine' HL.all_mk KX G hmg (PySem.W.km_tabs_of Y _ List.mem_cons_self) ?a0 ?l0 ?c0 ?k0 ?a1 ?l1 ?c1 ?k1 ?a2 ?l2 ?c2 ?k2 ?a3 ?l3 ?c3 ?k3 ?a4 ?l4 ?c4 ?k4 ?a5 ?l5 ?c5 ?k5 ?a6 ?l6 ?c6 ?k6 ?a7 ?l7 ?c7 ?k7 ?a8 ?l8 ?c8 ?k8 ?a9 ?l9 ?c9 ?k9 ?a10 ?l10 ?c10 ?k10 ?a11 ?l11 ?c11 ?k11 ?a12 ?l12 ?c12 ?k12 ?a13 ?l13 ?c13 ?k13 ?a14 ?l14 ?c14 ?k14 ?a15 ?l15 ?c15 ?k15 ?a16 ?l16 ?c16 ?k16 ?aL ?lL ?cdL ?nP ?hd ?aC1 ?xL1 ?sa1 ?ga1 ?gg1 ?nW1 ?nF1 ?aI1 ?tI1 ?lI1 ?cI1 ?kI1 ?kC1 ?eC1 ?tC1 ?hC1 ?iC1 ?aC2 ?xL2 ?sa2 ?ga2 ?gg2 ?nW2 ?nF2 ?aI2 ?tI2 ?lI2 ?cI2 ?kI2 ?kC2 ?eC2 ?tC2 ?hC2 ?iC2 ?s11 ?s21 ?s22 ?v6 ?v5 ?v3 ?z_len ?z_list ?z_tuple ?z_dict ?z_str ?z_int ?z_bool ?z_isinstance ?z_all ?z_range ?z_sum ?z_min ?z_max ?z_enumerate
    (case a0 => first | k_is | rfl)
    (case l0 => first | k_is | rfl)
    (case c0 => first | k_is | rfl)
    (case k0 => first | k_is | rfl)
    (case a1 => first | k_is | rfl)
    (case l1 => first | k_is | rfl)
    (case c1 => first | k_is | rfl)
    (case k1 => first | k_is | rfl)
    (case a2 => first | k_is | rfl)
    (case l2 => first | k_is | rfl)
    (case c2 => first | k_is | rfl)
    (case k2 => first | k_is | rfl)
    (case a3 => first | k_is | rfl)
    (case l3 => first | k_is | rfl)
    (case c3 => first | k_is | rfl)
    (case k3 => first | k_is | rfl)
    (case a4 => first | k_is | rfl)
    (case l4 => first | k_is | rfl)
    (case c4 => first | k_is | rfl)
    (case k4 => first | k_is | rfl)
    (case a5 => first | k_is | rfl)
    (case l5 => first | k_is | rfl)
    (case c5 => first | k_is | rfl)
    (case k5 => first | k_is | rfl)
    (case a6 => first | k_is | rfl)
    (case l6 => first | k_is | rfl)
    (case c6 => first | k_is | rfl)
    (case k6 => first | k_is | rfl)
    (case a7 => first | k_is | rfl)
    (case l7 => first | k_is | rfl)
    (case c7 => first | k_is | rfl)
    (case k7 => first | k_is | rfl)
    (case a8 => first | k_is | rfl)
    (case l8 => first | k_is | rfl)
    (case c8 => first | k_is | rfl)
    (case k8 => first | k_is | rfl)
    (case a9 => first | k_is | rfl)
    (case l9 => first | k_is | rfl)
    (case c9 => first | k_is | rfl)
    (case k9 => first | k_is | rfl)
    (case a10 => first | k_is | rfl)
    (case l10 => first | k_is | rfl)
    (case c10 => first | k_is | rfl)
    (case k10 => first | k_is | rfl)
    (case a11 => first | k_is | rfl)
    (case l11 => first | k_is | rfl)
    (case c11 => first | k_is | rfl)
    (case k11 => first | k_is | rfl)
    (case a12 => first | k_is | rfl)
    (case l12 => first | k_is | rfl)
    (case c12 => first | k_is | rfl)
    (case k12 => first | k_is | rfl)
    (case a13 => first | k_is | rfl)
    (case l13 => first | k_is | rfl)
    (case c13 => first | k_is | rfl)
    (case k13 => first | k_is | rfl)
    (case a14 => first | k_is | rfl)
    (case l14 => first | k_is | rfl)
    (case c14 => first | k_is | rfl)
    (case k14 => first | k_is | rfl)
    (case a15 => first | k_is | rfl)
    (case l15 => first | k_is | rfl)
    (case c15 => first | k_is | rfl)
    (case k15 => first | k_is | rfl)
    (case a16 => first | k_is | rfl)
    (case l16 => first | k_is | rfl)
    (case c16 => first | k_is | rfl)
    (case k16 => first | k_is | rfl)
    (case aL => first | k_is | rfl)
    (case lL => first | k_is | rfl)
    (case cdL => first | k_is | rfl)
    (case nP => first | k_is | rfl)
    (case hd => first | k_is | rfl)
    (case aC1 => first | k_is | rfl)
    (case xL1 => first | k_is | rfl)
    (case sa1 => first | k_is | rfl)
    (case ga1 => first | k_is | rfl)
    (case gg1 => first | k_is | rfl)
    (case nW1 => first | k_is | rfl)
    (case nF1 => first | k_is | rfl)
    (case aI1 => first | k_is | rfl)
    (case tI1 => first | k_is | rfl)
    (case lI1 => first | k_is | rfl)
    (case cI1 => first | k_is | rfl)
    (case kI1 => first | k_is | rfl)
    (case kC1 => first | k_is | rfl)
    (case eC1 => first | k_is | rfl)
    (case tC1 => first | k_is | rfl)
    (case hC1 => first | k_is | rfl)
    (case iC1 => first | k_is | rfl)
    (case aC2 => first | k_is | rfl)
    (case xL2 => first | k_is | rfl)
    (case sa2 => first | k_is | rfl)
    (case ga2 => first | k_is | rfl)
    (case gg2 => first | k_is | rfl)
    (case nW2 => first | k_is | rfl)
    (case nF2 => first | k_is | rfl)
    (case aI2 => first | k_is | rfl)
    (case tI2 => first | k_is | rfl)
    (case lI2 => first | k_is | rfl)
    (case cI2 => first | k_is | rfl)
    (case kI2 => first | k_is | rfl)
    (case kC2 => first | k_is | rfl)
    (case eC2 => first | k_is | rfl)
    (case tC2 => first | k_is | rfl)
    (case hC2 => first | k_is | rfl)
    (case iC2 => first | k_is | rfl)
    (case s11 => first | k_is | rfl)
    (case s21 => first | k_is | rfl)
    (case s22 => first | k_is | rfl)
    (case v6 => first | k_is | rfl)
    (case v5 => first | k_is | rfl)
    (case v3 => first | k_is | rfl)
    (case z_len => first | k_is | rfl)
    (case z_list => first | k_is | rfl)
    (case z_tuple => first | k_is | rfl)
    (case z_dict => first | k_is | rfl)
    (case z_str => first | k_is | rfl)
    (case z_int => first | k_is | rfl)
    (case z_bool => first | k_is | rfl)
    (case z_isinstance => first | k_is | rfl)
    (case z_all => first | k_is | rfl)
    (case z_range => first | k_is | rfl)
    (case z_sum => first | k_is | rfl)
    (case z_min => first | k_is | rfl)
    (case z_max => first | k_is | rfl)
    (case z_enumerate => first | k_is | rfl)

