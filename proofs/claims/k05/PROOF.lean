import PyProof.Rows.All
import Wide.All
import OpenK.AllK
import Wide.FinOn
import PyProof.InstNe
import HandS.ForMost
import HandS.Wide
import HandS.WideBits
import HandS.Gcd
import HandS.IsInst
import HandS.DictEq
import HandS.DictComp
import HandS.ListItems
import HandS.Defaults
import HandS.SlotsOwn
import HandS.Style
import HandS.Head0
import HandS.Head1
import HandS.Head2
import HandS.HeadEnd
import HandS.HeadHook1
import HandS.HeadHook2
import HandS.WordsList
import PyProof.ReprRoads
import HandS.Head3
import KE.DatumIndex
import PyProof.ReprBulk
import PyProof.Rows.RegStrFacts
import HandS.MakeKw
import HandS.ForExc
import HandS.ExcValue
import HandS.ExcIs
import HandS.MakeKwOnly
import HandS.SortInts
import KE.KDictDisplayH
import KE.KDictCopyH
import KE.KOpsOwn
import HandS.CallSlots
import HandS.Walk
import PySem.Challenge.RW_prepaidplans_k05_errors_of_rows
set_option Elab.async false
set_option linter.all false
set_option maxRecDepth 100000
set_option maxHeartbeats 4000000
namespace Q7
open PySem PySem.Spec PyProof.Rows L2

/-! ### reading an item of a list, for an augmented store -/
def rGetL (K : PySem.W.Frag) : V → V → Hp → VK → Prop := fun o i H Q => ∃ p xs k v, o = .ref p ∧ i = .int k ∧ SqL K H p xs ∧ 0 ≤ k ∧ xs[k.toNat]? = some v ∧ Q v H
theorem get_list {X : Cx} : PGet X (rGetL X.K) := by
  intro pins s σ H o i ov iv Q I ro ri h
  obtain ⟨p, xs, k, z, rfl, rfl, hs, h0, hx, q⟩ := h
  cases ro
  obtain ⟨t, rfl⟩ := ri
  obtain ⟨its, r, pl, hz⟩ := I.list hs
  obtain ⟨u, eu, ru⟩ := r.get hx
  have hk : k.toNat < xs.length := (List.getElem?_eq_some_iff.mp hx).1
  have hl := line63
  have hsz := sizeLine_eq
  exact wpAny_getItem_list pl.isList h0 (by omega) (by simpa using eu) ⟨z, H, I, ru, q⟩

/-! ### list + list where the operands are only read -/
def rCatS (K : PySem.W.Frag) : R2 := fun x y H Q => ∃ l b xs zs, x = .ref l ∧ y = .ref b ∧ SqL K H l xs ∧ SqL K H b zs ∧ xs.length + zs.length ≤ sizeLine ∧ ∀ p, H p = none → Q (.ref p) (upd H p (.lst (xs ++ zs)))
theorem op_catS {X : Cx} : OpR X (binaryOp .Add) (rCatS X.K) := by
  intro pins s σ H x y v u Q I rx ry h
  obtain ⟨l, b, xs, zs, rfl, rfl, hl, hb, hz, q⟩ := h
  cases rx
  cases ry
  obtain ⟨its, r, pl, _⟩ := I.list hl
  obtain ⟨its2, r2, pl2, _⟩ := I.list hb
  obtain ⟨⟨c1, d1, t1, s1⟩, n1, e1, k1, j1, g1⟩ := pl
  obtain ⟨⟨c2, d2, t2, s2⟩, n2, e2, k2, j2, g2⟩ := pl2
  simp only at k1 j1 g1 k2 j2 g2
  subst k1 g1 k2 g2
  have hl1 := r.length
  have hl2 := r2.length
  have ea : its.toArray ++ its2.toArray = (its ++ its2).toArray := by simp
  refine concat_meets ⟨_, e1, rfl⟩ ⟨_, e2, rfl⟩ noFill_list_add seq_list_add PySem.F.slot_list_add PySem.F.entry_list_add (PySem.F.args_list_add_2 _ _)
    (list_addW l b its.toArray its2.toArray n1 n2 d1 d2 s1 s2 (by simp only [List.size_toArray]; omega)) ⟨e1, e2, ?_⟩
  rw [ea]
  exact ⟨.ref _, _, I.lnew (t' := s.toks) (r.append r2) (by rw [List.length_append]; omega), rfl, q _ I.fresh⟩

/-! ### operators of the program's own class -/
section
variable {X : Cx} {CX : CXT} {n : Nat} {g C : Addr} {fd : FuncData} {ps : List Str} {sp : Sp} {E : XK}
/-- x op y, both instances of the class at C, whose method for op keeps sp -/
def rOwn2 (C : Addr) (sp : Sp) (E : XK) : R2 := fun x y H Q => ∃ a dx fs b dy gs, x = .ref a ∧ y = .ref b ∧ H a = some (.ins C dx fs) ∧ H b = some (.ins C dy gs) ∧ sp [x, y] H Q E
theorem look2 {pins : List (Addr × Obj)} {s : Shared} {σ : L2.St} {H : Hp} {a dx : Addr} {fs : List (Str × V)} (I : Inv X pins σ H s) (h : H a = some (.ins C dx fs)) : ∃ ox od, PySem.W.InstAt s.heap a ox C od := by
  obtain ⟨mA, O, _⟩ := ins_get I.hok h
  obtain ⟨od, J, _⟩ := O.look
  exact ⟨_, _, J⟩
theorem op_own2 {op : Operator} (hc : PySem.W.selfFirst X.K C = true) (hs : PySem.W.findIn X.K (.ref C) (PySem.dunder op.info.2) = some (some (.ref g))) (hf : PySem.W.isFn X.K (.ref g) = true)
    (F : FnOk X.prog X.w X.K X.mg X.base CX n g fd ps sp) (hr : Room n X.A) (hb : Binds X.K fd ps []) (hx : Passes CX X E) : OpR X (binaryOp op) (rOwn2 C sp E) := by
  intro pins s σ H x y v u Q I rx ry h
  obtain ⟨a, dx, fs, b, dy, gs, rfl, rfl, ha, hb', q⟩ := h
  cases rx
  cases ry
  obtain ⟨ox, od, J⟩ := look2 I ha
  obtain ⟨oy, od', J'⟩ := look2 I hb'
  obtain ⟨m, hF⟩ := I.fr
  refine PySem.W.binop_K hF I.ok.mod.kin J J'.type hc hs hf ?_
  refine wpAny_mono (run_fn (us := [.ref a, .ref b]) (vs := [.ref a, .ref b]) F hr hb .nil hx I (.cons rfl (.cons rfl .nil)) q) (fun w s' z => ?_) fun _ _ z => z
  obtain ⟨z', H', I', rz, qz⟩ := z
  exact SlX.cmpback rz ⟨z', H', I', rz, qz⟩
theorem op_ownEq (hs : PySem.W.findIn X.K (.ref C) "__eq__" = some (some (.ref g))) (hf : PySem.W.isFn X.K (.ref g) = true)
    (F : FnOk X.prog X.w X.K X.mg X.base CX n g fd ps sp) (hr : Room n X.A) (hb : Binds X.K fd ps []) (hx : Passes CX X E) : OpR X (compareOp .Eq) (rOwn2 C sp E) := by
  intro pins s σ H x y v u Q I rx ry h
  obtain ⟨a, dx, fs, b, dy, gs, rfl, rfl, ha, hb', q⟩ := h
  cases rx
  cases ry
  obtain ⟨ox, od, J⟩ := look2 I ha
  obtain ⟨oy, od', J'⟩ := look2 I hb'
  obtain ⟨m, hF⟩ := I.fr
  unfold compareOp
  refine PySem.W.cmp_K (op := .Eq) (tb := .ref C) hr.units0 hF I.ok.mod.kin J J'.type (by simp [PySem.W.notFirst]) hs hf ?_
  refine wpAny_mono (run_fn (us := [.ref a, .ref b]) (vs := [.ref a, .ref b]) F hr hb .nil hx I (.cons rfl (.cons rfl .nil)) q) (fun w s' z => ?_) fun _ _ z => z
  obtain ⟨z', H', I', rz, qz⟩ := z
  exact SlX.cmpback rz ⟨z', H', I', rz, qz⟩
/-- x in y, y an instance of the class at C whose __contains__ keeps sp and hands back a bool -/
def rOwnIn (C : Addr) (sp : Sp) (E : XK) : R2 := fun x y H Q => ∃ b dy gs, y = .ref b ∧ H b = some (.ins C dy gs) ∧ sp [y, x] H (fun v H' => ∃ k, v = .bl k ∧ Q (.bl k) H') E
theorem op_ownIn (hs : PySem.W.findIn X.K (.ref C) "__contains__" = some (some (.ref g))) (hf : PySem.W.isFn X.K (.ref g) = true)
    (F : FnOk X.prog X.w X.K X.mg X.base CX n g fd ps sp) (hr : Room n X.A) (hb : Binds X.K fd ps []) (hx : Passes CX X E) : OpR X (compareOp .In) (rOwnIn C sp E) := by
  intro pins s σ H x y v u Q I rx ry h
  obtain ⟨b, dy, gs, rfl, hb', q⟩ := h
  cases ry
  obtain ⟨ox, od, J⟩ := look2 I hb'
  obtain ⟨m, hF⟩ := I.fr
  refine PySem.W.in_K hF I.ok.mod.kin J hs hf ?_
  refine wpAny_mono (run_fn (us := [.ref b, v]) (vs := [.ref b, x]) F hr hb .nil hx I (.cons rfl (.cons rx .nil)) q) (fun w s' z => ?_) fun _ _ z => z
  obtain ⟨z', H', I', rz, k, rfl, qz⟩ := z
  cases rz
  exact wpAny_truthy_bool ⟨.bl k, H', I', rfl, qz⟩
/-- len(x), x an instance of the class at C whose __len__ keeps sp -/
def rOwnLen (C : Addr) (sp : Sp) (E : XK) : List V → Hp → VK → Prop := fun xs H Q => ∃ a dx fs, xs = [.ref a] ∧ H a = some (.ins C dx fs) ∧ sp [.ref a] H (fun v H' => ∃ k : Int, v = .int k ∧ 0 ≤ k ∧ k < 2 ^ 63 ∧ Q (.int k) H') E
theorem Env0.in1' {P : Program} {w : World} {K : PySem.W.Frag} {mg : Str → Option Value} {base : Heap} {A : Around} {outer : List Env} {s : Shared} {H : Hp} (e : Env0 P w K mg base A outer s H) : Env0 P w K mg base A.in1 outer s H := e.in1
theorem call_ownLen (hs : PySem.W.findIn X.K (.ref C) "__len__" = some (some (.ref g))) (hf : PySem.W.isFn X.K (.ref g) = true)
    (F : FnOk X.prog X.w X.K X.mg X.base CX n g fd ps sp) (hr : Room (n + 1) X.A) (hb : Binds X.K fd ps []) (hx : ∀ H s e s', CX X.stack H s E e s' → False) : CallR X (.builtin "len") (rOwnLen C sp E) := by
  intro pins s σ H xs us Q I r h
  obtain ⟨a, dx, fs, rfl, ha, q⟩ := h
  obtain ⟨u, rfl, rx⟩ := vals1 r
  cases rx
  obtain ⟨ox, od, J⟩ := look2 I ha
  obtain ⟨m, hF⟩ := I.fr
  refine PySem.W.len_K hF I.ok.mod.kin J hs hf ?_
  have hl := F.len _ _ _ _ q
  have r2 : Vals [V.ref a] [Value.ref a] := .cons rfl .nil
  refine wpAny_call (codeAny_mono (F.run X.A.in1 X.stack s H ⟨[.ref a], []⟩ [.ref a] [.ref a] _ E hr.in1 I.env0.in1 (by
    have := hb s [.ref a] I.kIn (by simpa using hl)
    simpa using this) r2 q) fun r s' hq => ?_)
  cases r with
  | error e => exact (hx _ _ _ _ hq).elim
  | ok fl =>
    cases fl with
    | ret w =>
      obtain ⟨z, H', I', rz, k, rfl, h0, h1, qz⟩ := I.after hq
      obtain ⟨t, rfl⟩ := rz
      exact ⟨⟨h0, h1⟩, .int k, H', I'.tok _, ⟨_, rfl⟩, qz⟩
    | next => exact False.elim hq
    | brk => exact False.elim hq
    | cont => exact False.elim hq
end

/-! ### != by an own __eq__ (no __ne__ of the class's own) -/
structure NeTxt (K : PySem.W.Frag) (C g : Addr) : Prop where
  cls : ∃ nm q N bs sn sub ab col dd k0 k1 k2 k3 k5 nid, K.lookup C = some (excClassObj nm q C N bs [.type "object"] true sn sub ab col dd k0 k1 k2 k3 k5 nid) ∧
    PySem.W.nsOkIn K N = true ∧ PySem.W.nsIn K N "__eq__" = some (some (.ref g)) ∧ PySem.W.nsIn K N "__ne__" = some none
  fn : ∃ of, K.lookup g = some of ∧ of.cls = .type "function"
theorem ns_some_of {K : PySem.W.Frag} {h : Heap} {N : Addr} {mg : Str → Option Value} {n : Str} {v : Value} (X : K.In h) (G : h.Ns N mg) (e : PySem.W.nsIn K N n = some (some v)) : mg n = some v := by
  obtain ⟨o, es, ep, ho, hd, _, hf⟩ := G
  unfold PySem.W.nsIn at e
  split at e
  · rename_i c d es' n' sl q
    have z := X _ _ q
    rw [ho] at z
    cases z
    cases hd
    split at e
    · rename_i en he
      have ev : en.val = v := Option.some.inj (Option.some.inj e)
      rw [← hf, ← ev]
      unfold nsFind findBy
      rw [← Array.find?_toList, he]
      rfl
    · split at e <;> cases e
  · cases e
section
variable {X : Cx} {CX : CXT} {n : Nat} {g C : Addr} {fd : FuncData} {ps : List Str} {sp : Sp} {E : XK}
theorem look3 {pins : List (Addr × Obj)} {s : Shared} {σ : L2.St} {H : Hp} {a dx : Addr} {fs : List (Str × V)} (I : Inv X pins σ H s) (h : H a = some (.ins C dx fs)) : ∃ o, s.heap.get? a = some o ∧ o.cls = .ref C := by
  obtain ⟨mA, O, _⟩ := ins_get I.hok h
  exact ⟨_, O.obj, rfl⟩
def rOwnNe (C : Addr) (sp : Sp) (E : XK) : R2 := fun x y H Q => ∃ a dx fs b dy gs, x = .ref a ∧ y = .ref b ∧ H a = some (.ins C dx fs) ∧ H b = some (.ins C dy gs) ∧ sp [x, y] H (fun v H' => ∃ k, v = .bl k ∧ Q (.bl (!k)) H') E
theorem op_ownNe (T : NeTxt X.K C g) (F : FnOk X.prog X.w X.K X.mg X.base CX n g fd ps sp) (hr : Room (n + 1) X.A) (hb : Binds X.K fd ps []) (hx : ∀ H s e s', CX X.stack H s E e s' → False) : OpR X (compareOp .NotEq) (rOwnNe C sp E) := by
  intro pins s σ H x y v u Q I rx ry h
  obtain ⟨a, dx, fs, b, dy, gs, rfl, rfl, ha, hb', q⟩ := h
  cases rx
  cases ry
  obtain ⟨nm, qn, N, bs, sn, sub, ab, col, dd, k0, k1, k2, k3, k5, nid, hC, hN, hE, hNe⟩ := T.cls
  obtain ⟨of, hof, hoc⟩ := T.fn
  obtain ⟨oa, ea, ca⟩ := look3 I ha
  obtain ⟨ob, eb, cb⟩ := look3 I hb'
  have KX := I.kIn
  have G : s.heap.Ns N (s.heap.nsMap N) := .of_isNs (PySem.W.isNs_of_in KX hN)
  have OX : s.heap.OwnEqNoNe a C g "object" [.type "object"] := ⟨oa, of, nm, qn, N, bs, true, sn, sub, ab, col, dd, k0, k1, k2, k3, k5, nid, s.heap.nsMap N, _, ea, ca, KX _ _ hC, G, ns_some_of KX G hE, KX _ _ hof, hoc, PySem.F.cmp_object.mro, PySem.F.cmp_object.eq.lookup, PySem.W.nsMap_none_of_in KX hN hNe⟩
  have hl := F.len _ _ _ _ q
  have r2 : Vals [V.ref a, V.ref b] [Value.ref a, Value.ref b] := .cons rfl (.cons rfl .nil)
  have key : ∀ (s0 : Shared), s0 = s → wpAny (model X.prog X.w) X.A (compareOp .NotEq (.ref a) (.ref b)) (EP X pins σ Q) X.xe ⟨s0.heap, s0.gens, s0.drawn, s0.toks, s0.os⟩ := by
    rintro s0 rfl
    refine compareOp_ne_ownEq PySem.F.cmp_object OX eb cb (by have := hr.un; omega) ?_
    refine wpAny_call (codeAny_mono (F.run X.A.in1 X.stack s0 H ⟨[.ref a, .ref b], []⟩ [.ref a, .ref b] [.ref a, .ref b] _ E hr.in1 I.env0.in1 (by
      have := hb s0 [.ref a, .ref b] I.kIn (by simpa using hl)
      simpa using this) r2 q) fun r s' hq => ?_)
    cases r with
    | error e => exact (hx _ _ _ _ hq).elim
    | ok fl =>
      cases fl with
      | ret w =>
        obtain ⟨z, H', I', rz, k, rfl, qz⟩ := I.after hq
        cases rz
        exact ⟨k, rfl, .bl (!k), H', I', rfl, qz⟩
      | next => exact False.elim hq
      | brk => exact False.elim hq
      | cont => exact False.elim hq
  exact key s rfl
end
/-
  refine wpAny_mono (run_fn (us := [.ref a, .ref b]) (vs := [.ref a, .ref b]) F hr hb .nil hx I (.cons rfl (.cons rfl .nil)) q) (fun w s' z => ?_) fun _ _ z => z
  obtain ⟨z', H', I', rz, k, rfl, qz⟩ := z
  cases rz
-/

end Q7
namespace Q7
/-! ### fractions in lowest terms are rationals -/
theorem div_num_pos (a : Int) {b : Int} (hb : 0 < b) : (Rat.divInt a b).num = a / ((Nat.gcd a.natAbs b.natAbs : Nat) : Int) ∧ ((Rat.divInt a b).den : Int) = b / ((Nat.gcd a.natAbs b.natAbs : Nat) : Int) := by
  rw [Rat.num_divInt, Rat.den_divInt, if_neg (by omega), Int.sign_eq_one_of_pos hb, Int.one_mul]
  have e : b.gcd a = Nat.gcd a.natAbs b.natAbs := by rw [Int.gcd_comm]; rfl
  refine ⟨by rw [e], ?_⟩
  rw [e]
  have h1 : ((b.natAbs / Nat.gcd a.natAbs b.natAbs : Nat) : Int) = (b.natAbs : Int) / ((Nat.gcd a.natAbs b.natAbs : Nat) : Int) := by simp
  rw [h1, Int.natAbs_of_nonneg (by omega)]
theorem div_num_neg (a : Int) {b : Int} (hb : b < 0) : (Rat.divInt a b).num = a / (-((Nat.gcd a.natAbs b.natAbs : Nat) : Int)) ∧ ((Rat.divInt a b).den : Int) = b / (-((Nat.gcd a.natAbs b.natAbs : Nat) : Int)) := by
  have e : Rat.divInt a b = Rat.divInt (-a) (-b) := by
    rw [Rat.neg_divInt_neg]
  have h := div_num_pos (-a) (b := -b) (by omega)
  rw [e]
  rw [Int.natAbs_neg, Int.natAbs_neg] at h
  have g1 : ((Nat.gcd a.natAbs b.natAbs : Nat) : Int) ∣ a := by
    have := Nat.gcd_dvd_left a.natAbs b.natAbs
    exact Int.dvd_natAbs.mp (Int.ofNat_dvd.mpr this)
  have g2 : ((Nat.gcd a.natAbs b.natAbs : Nat) : Int) ∣ b := by
    have := Nat.gcd_dvd_right a.natAbs b.natAbs
    exact Int.dvd_natAbs.mp (Int.ofNat_dvd.mpr this)
  rw [Int.ediv_neg, Int.ediv_neg]
  rw [h.1, h.2, Int.neg_ediv_of_dvd g1, Int.neg_ediv_of_dvd g2]
  exact ⟨rfl, rfl⟩
/-- what the program's reduction gives -/
theorem red (a b : Int) (hb : b ≠ 0) (d : Int) (hd : d = if b < 0 then -((Nat.gcd a.natAbs b.natAbs : Nat) : Int) else ((Nat.gcd a.natAbs b.natAbs : Nat) : Int)) :
    a.fdiv d = (Rat.divInt a b).num ∧ b.fdiv d = ((Rat.divInt a b).den : Int) ∧ d ≠ 0 := by
  have hg : 0 < Nat.gcd a.natAbs b.natAbs := Nat.gcd_pos_of_pos_right _ (by omega)
  have g1 : ((Nat.gcd a.natAbs b.natAbs : Nat) : Int) ∣ a := Int.dvd_natAbs.mp (Int.ofNat_dvd.mpr (Nat.gcd_dvd_left a.natAbs b.natAbs))
  have g2 : ((Nat.gcd a.natAbs b.natAbs : Nat) : Int) ∣ b := Int.dvd_natAbs.mp (Int.ofNat_dvd.mpr (Nat.gcd_dvd_right a.natAbs b.natAbs))
  by_cases h : b < 0
  · rw [if_pos h] at hd
    subst hd
    have q := div_num_neg a h
    rw [Int.fdiv_eq_ediv_of_dvd (Int.neg_dvd.mpr g1), Int.fdiv_eq_ediv_of_dvd (Int.neg_dvd.mpr g2), q.1, q.2]
    exact ⟨rfl, rfl, by omega⟩
  · rw [if_neg h] at hd
    subst hd
    have q := div_num_pos a (b := b) (by omega)
    rw [Int.fdiv_eq_ediv_of_dvd g1, Int.fdiv_eq_ediv_of_dvd g2, q.1, q.2]
    exact ⟨rfl, rfl, by omega⟩
theorem rat_gcd (q : Rat) : Nat.gcd q.num.natAbs ((q.den : Int)).natAbs = 1 := q.reduced
theorem add_eq (p q : Rat) : p + q = Rat.divInt (p.num * q.den + q.num * p.den) ((p.den : Int) * q.den) := by
  rw [Rat.add_def', ← Rat.divInt_ofNat]
  simp
theorem mul_eq (p q : Rat) : p * q = Rat.divInt (p.num * q.num) ((p.den : Int) * q.den) := by
  rw [Rat.mul_def']
  rw [← Rat.divInt_ofNat]
  simp
theorem divq_eq (p q : Rat) : p / q = Rat.divInt (p.num * q.den) ((p.den : Int) * q.num) := by
  rw [Rat.div_def, Rat.inv_def]
  conv => lhs; lhs; rw [← Rat.num_divInt_den p]
  rw [Rat.divInt_mul_divInt]
theorem den_pos (q : Rat) : (0 : Int) < q.den := by have := q.den_pos; omega
theorem den_mul_pos (p q : Rat) : (0 : Int) < (p.den : Int) * q.den := Int.mul_pos (den_pos p) (den_pos q)
/-! ### sizes -/
def B (n : Nat) (q : Rat) : Prop := q.num.natAbs < 2 ^ n ∧ q.den < 2 ^ n
theorem B.mono {n m : Nat} {q : Rat} (h : B n q) (hm : n ≤ m) : B m q := ⟨Nat.lt_of_lt_of_le h.1 (Nat.pow_le_pow_right (by omega) hm), Nat.lt_of_lt_of_le h.2 (Nat.pow_le_pow_right (by omega) hm)⟩
theorem div_le (a b : Int) (hb : b ≠ 0) : (Rat.divInt a b).num.natAbs ≤ a.natAbs ∧ (Rat.divInt a b).den ≤ b.natAbs := by
  refine ⟨?_, ?_⟩
  · rw [Rat.num_divInt]
    have h : (b.sign * a / ((b.gcd a : Nat) : Int)).natAbs ≤ (b.sign * a).natAbs := Int.natAbs_ediv_le_natAbs _ _
    refine Nat.le_trans h ?_
    rw [Int.natAbs_mul, Int.natAbs_sign_of_ne_zero hb, Nat.one_mul]
    exact Nat.le_refl _
  · rw [Rat.den_divInt, if_neg hb]
    exact Nat.div_le_self _ _
theorem B.div {n : Nat} {a b : Int} (ha : a.natAbs < 2 ^ n) (hb : b.natAbs < 2 ^ n) (h0 : b ≠ 0) : B n (Rat.divInt a b) := ⟨Nat.lt_of_le_of_lt (div_le a b h0).1 ha, Nat.lt_of_le_of_lt (div_le a b h0).2 hb⟩
theorem abs_mul_lt {a b : Int} {n m : Nat} (ha : a.natAbs < 2 ^ n) (hb : b.natAbs < 2 ^ m) : (a * b).natAbs < 2 ^ (n + m) := by
  rw [Int.natAbs_mul, Nat.pow_add]
  exact Nat.mul_lt_mul'' ha hb
theorem B.add {n m : Nat} {p q : Rat} (hp : B n p) (hq : B m q) : B (n + m + 1) (p + q) := by
  rw [add_eq]
  have h1 := abs_mul_lt (a := p.num) (b := q.den) hp.1 (by simpa using hq.2)
  have h2 := abs_mul_lt (a := q.num) (b := p.den) hq.1 (by simpa using hp.2)
  have h3 := abs_mul_lt (a := p.den) (b := q.den) (n := n) (m := m) (by simpa using hp.2) (by simpa using hq.2)
  refine B.div ?_ ?_ (Int.ne_of_gt (den_mul_pos p q))
  · rw [Nat.pow_succ]
    rw [Nat.add_comm m n] at h2
    omega
  · rw [Nat.pow_succ]
    omega
theorem B.mul {n m : Nat} {p q : Rat} (hp : B n p) (hq : B m q) : B (n + m) (p * q) := by
  rw [mul_eq]
  exact B.div (abs_mul_lt hp.1 hq.1) (abs_mul_lt (by simpa using hp.2) (by simpa using hq.2)) (Int.ne_of_gt (den_mul_pos p q))
theorem B.neg {n : Nat} {q : Rat} (h : B n q) : B n (-q) := ⟨by rw [Rat.neg_num, Int.natAbs_neg]; exact h.1, h.2⟩
theorem B.zero : B 1 0 := ⟨by decide, by decide⟩

/-! ### rows: lists of pairs, seen through all weights -/
abbrev Rw := List (Int × Rat)
def wt (f : Int → Rat) : Rw → Rat
  | [] => 0
  | (t, q) :: r => q * f t + wt f r
theorem wt_append (f : Int → Rat) : ∀ a b : Rw, wt f (a ++ b) = wt f a + wt f b
  | [], b => by simp [wt, Rat.zero_add]
  | (t, q) :: r, b => by
    simp only [List.cons_append, wt, wt_append f r b]
    grind
theorem wt_perm (f : Int → Rat) {a b : Rw} (h : a.Perm b) : wt f a = wt f b := by
  induction h with
  | nil => rfl
  | cons x _ ih => obtain ⟨t, q⟩ := x; simp only [wt, ih]
  | swap x y l => obtain ⟨t, q⟩ := x; obtain ⟨u, r⟩ := y; simp only [wt]; grind
  | trans _ _ h1 h2 => exact h1.trans h2
theorem wt_filter (f : Int → Rat) : ∀ a : Rw, wt f (a.filter fun p => decide (p.2 ≠ 0)) = wt f a
  | [] => rfl
  | (t, q) :: r => by
    have ih := wt_filter f r
    by_cases h : q = 0
    · subst h
      simp only [List.filter, wt]
      simp only [ne_eq, not_true_eq_false, decide_false]
      rw [ih]
      grind
    · have : decide (q ≠ 0) = true := by simp [h]
      simp only [List.filter, this, wt, ih]
/-- the weights at one tick -/
def at_ (t : Int) : Int → Rat := fun u => if u = t then 1 else 0
/-- strictly ascending, without zeros -/
structure Nf (a : Rw) : Prop where
  asc : a.Pairwise fun x y => x.1 < y.1
  nz : ∀ p ∈ a, p.2 ≠ 0
theorem wt_at_none {t : Int} : ∀ {a : Rw}, (∀ p ∈ a, p.1 ≠ t) → wt (at_ t) a = 0
  | [], _ => rfl
  | (u, q) :: r, h => by
    have h1 : u ≠ t := h (u, q) List.mem_cons_self
    simp only [wt, at_, if_neg h1, wt_at_none (a := r) fun p hp => h p (List.mem_cons_of_mem _ hp)]
    grind
theorem wt_at_head {t : Int} {q : Rat} {r : Rw} (h : ∀ p ∈ r, p.1 ≠ t) : wt (at_ t) ((t, q) :: r) = q := by
  simp only [wt, at_, wt_at_none h]
  simp only [if_pos]
  grind
theorem Nf.tail {p : Int × Rat} {r : Rw} (h : Nf (p :: r)) : Nf r := ⟨(List.pairwise_cons.mp h.asc).2, fun x hx => h.nz x (List.mem_cons_of_mem _ hx)⟩
theorem Nf.head {p : Int × Rat} {r : Rw} (h : Nf (p :: r)) : ∀ x ∈ r, p.1 < x.1 := (List.pairwise_cons.mp h.asc).1
/-- two normal rows of equal weights are one -/
theorem Nf.eq : ∀ {a b : Rw}, Nf a → Nf b → (∀ f, wt f a = wt f b) → a = b
  | [], [], _, _, _ => rfl
  | [], (t, q) :: r, _, hb, h => by
    have h1 := h (at_ t)
    rw [wt_at_head fun p hp => Ne.symm (Int.ne_of_lt (hb.head p hp))] at h1
    exact absurd h1.symm (hb.nz _ List.mem_cons_self)
  | (t, q) :: r, [], ha, _, h => by
    have h1 := h (at_ t)
    rw [wt_at_head fun p hp => Ne.symm (Int.ne_of_lt (ha.head p hp))] at h1
    exact absurd h1 (ha.nz _ List.mem_cons_self)
  | (t, q) :: r, (u, x) :: s, ha, hb, h => by
    have hr : ∀ p ∈ r, p.1 ≠ t := fun p hp => Ne.symm (Int.ne_of_lt (ha.head p hp))
    have hs : ∀ p ∈ s, p.1 ≠ u := fun p hp => Ne.symm (Int.ne_of_lt (hb.head p hp))
    have e : t = u := by
      rcases Int.lt_trichotomy t u with l | l | l
      · have h1 := h (at_ t)
        rw [wt_at_head hr, wt_at_none (a := (u, x) :: s)] at h1
        · exact absurd h1 (ha.nz _ List.mem_cons_self)
        · intro p hp
          rcases List.mem_cons.mp hp with rfl | hp
          · exact Ne.symm (Int.ne_of_lt l)
          · exact Ne.symm (Int.ne_of_lt (Int.lt_trans l (hb.head p hp)))
      · exact l
      · have h1 := h (at_ u)
        rw [wt_at_head hs, wt_at_none (a := (t, q) :: r)] at h1
        · exact absurd h1.symm (hb.nz _ List.mem_cons_self)
        · intro p hp
          rcases List.mem_cons.mp hp with rfl | hp
          · exact Ne.symm (Int.ne_of_lt l)
          · exact Ne.symm (Int.ne_of_lt (Int.lt_trans l (ha.head p hp)))
    subst e
    have h1 := h (at_ t)
    rw [wt_at_head hr, wt_at_head hs] at h1
    subst h1
    have h2 : r = s := Nf.eq ha.tail hb.tail fun f => by
      have := h f
      simp only [wt] at this
      grind
    rw [h2]

/-! ### a dict of sums -/
/-- m[t] = m.get(t, 0) + q, in the order of insertion -/
def putS (m : Rw) (t : Int) (q : Rat) : Rw := match m with
  | [] => [(t, 0 + q)]
  | (u, x) :: r => if u = t then (u, x + q) :: r else (u, x) :: putS r t q
theorem wt_put (f : Int → Rat) (t : Int) (q : Rat) : ∀ m : Rw, wt f (putS m t q) = wt f m + q * f t
  | [] => by simp only [putS, wt]; grind
  | (u, x) :: r => by
    unfold putS
    by_cases h : u = t
    · rw [if_pos h]; subst h; simp only [wt]; grind
    · rw [if_neg h]; simp only [wt, wt_put f t q r]; grind
theorem put_keys (t : Int) (q : Rat) : ∀ m : Rw, (putS m t q).map (·.1) = if t ∈ m.map (·.1) then m.map (·.1) else m.map (·.1) ++ [t]
  | [] => by simp [putS]
  | (u, x) :: r => by
    unfold putS
    by_cases h : u = t
    · rw [if_pos h]; subst h; simp
    · rw [if_neg h]
      have ih := put_keys t q r
      simp only [List.map_cons, ih, List.mem_cons]
      by_cases h2 : t ∈ r.map (·.1)
      · rw [if_pos h2, if_pos (Or.inr h2)]
      · rw [if_neg h2, if_neg (by rintro (e | e); exact h e.symm; exact h2 e)]
        rfl
theorem put_nodup {m : Rw} (t : Int) (q : Rat) (h : (m.map (·.1)).Nodup) : ((putS m t q).map (·.1)).Nodup := by
  rw [put_keys]
  by_cases h2 : t ∈ m.map (·.1)
  · rw [if_pos h2]; exact h
  · rw [if_neg h2]
    rw [List.nodup_append]
    refine ⟨h, by simp, ?_⟩
    intro a ha b hb e
    simp only [List.mem_singleton] at hb
    subst hb; subst e
    exact h2 ha
def sums (ps : Rw) : Rw := ps.foldl (fun m p => putS m p.1 p.2) []
theorem wt_sums_go (f : Int → Rat) : ∀ (ps m : Rw), wt f (ps.foldl (fun m p => putS m p.1 p.2) m) = wt f m + wt f ps
  | [], m => by simp only [List.foldl, wt]; grind
  | (t, q) :: r, m => by simp only [List.foldl, wt_sums_go f r, wt_put, wt]; grind
theorem wt_sums (f : Int → Rat) (ps : Rw) : wt f (sums ps) = wt f ps := by
  unfold sums
  rw [wt_sums_go]
  simp only [wt]
  grind
theorem sums_nodup_go : ∀ (ps m : Rw), (m.map (·.1)).Nodup → ((ps.foldl (fun m p => putS m p.1 p.2) m).map (·.1)).Nodup
  | [], _, h => h
  | (t, q) :: r, m, h => sums_nodup_go r _ (put_nodup t q h)
theorem sums_nodup (ps : Rw) : ((sums ps).map (·.1)).Nodup := sums_nodup_go ps [] (by simp)
theorem sums_snoc (ps : Rw) (p : Int × Rat) : sums (ps ++ [p]) = putS (sums ps) p.1 p.2 := by unfold sums; rw [List.foldl_append]; rfl
def look (m : Rw) (t : Int) : Rat := match m with
  | [] => 0
  | (u, x) :: r => if u = t then x else look r t
/-- the ticks ys, in this order, with their sums, without zeros -/
def pick (m : Rw) (ys : List Int) : Rw := (ys.map fun t => (t, look m t)).filter fun p => decide (p.2 ≠ 0)
theorem look_self : ∀ {m : Rw}, (m.map (·.1)).Nodup → (m.map (·.1)).map (fun t => (t, look m t)) = m
  | [], _ => rfl
  | (u, x) :: r, h => by
    have h1 := List.nodup_cons.mp h
    simp only [List.map_cons, look, if_pos]
    congr 1
    have ih := look_self (m := r) h1.2
    conv => rhs; rw [← ih]
    apply List.map_congr_left
    intro t ht
    rw [if_neg (fun e => h1.1 (by rw [e]; exact ht))]
theorem pick_nf {m : Rw} {ys : List Int} (hn : (m.map (·.1)).Nodup) (hp : ys.Perm (m.map (·.1))) (hs : ys.Pairwise (· ≤ ·)) : Nf (pick m ys) := by
  have hs2 : ys.Pairwise (· < ·) := by
    have nd : ys.Nodup := hp.nodup_iff.mpr hn
    have := List.Pairwise.and hs nd
    exact this.imp fun h => Int.lt_iff_le_and_ne.mpr h
  refine ⟨?_, ?_⟩
  · unfold pick
    apply List.Pairwise.filter
    rw [List.pairwise_map]
    exact hs2
  · intro p hp'
    have := (List.mem_filter.mp hp').2
    simpa using this
theorem wt_pick (f : Int → Rat) {m : Rw} {ys : List Int} (hn : (m.map (·.1)).Nodup) (hp : ys.Perm (m.map (·.1))) : wt f (pick m ys) = wt f m := by
  unfold pick
  rw [wt_filter]
  rw [wt_perm f (hp.map fun t => (t, look m t)), look_self hn]
/-- the normal row of a list of pairs -/
def norm (ps : Rw) : Rw := pick (sums ps) (((sums ps).map (·.1)).mergeSort)
theorem norm_nf (ps : Rw) : Nf (norm ps) := pick_nf (sums_nodup ps) (List.mergeSort_perm _ _) (by
  have h := List.pairwise_mergeSort (le := fun (a b : Int) => decide (a ≤ b)) (fun a b c h1 h2 => by simp only [decide_eq_true_eq] at *; omega) (fun a b => by simp only [Bool.or_eq_true, decide_eq_true_eq]; omega) ((sums ps).map (·.1))
  exact h.imp fun h => of_decide_eq_true h)
theorem wt_norm (f : Int → Rat) (ps : Rw) : wt f (norm ps) = wt f ps := by
  unfold norm
  rw [wt_pick f (sums_nodup ps) (List.mergeSort_perm _ _), wt_sums]
theorem norm_pick {ps : Rw} {ys : List Int} (hp : ys.Perm ((sums ps).map (·.1))) (hs : ys.Pairwise (· ≤ ·)) : pick (sums ps) ys = norm ps :=
  Nf.eq (pick_nf (sums_nodup ps) hp hs) (norm_nf ps) fun f => by rw [wt_norm, wt_pick f (sums_nodup ps) hp, wt_sums]
theorem norm_eq {a b : Rw} (h : ∀ f, wt f a = wt f b) : norm a = norm b := Nf.eq (norm_nf a) (norm_nf b) fun f => by rw [wt_norm, wt_norm, h f]
theorem norm_of {a b : Rw} (ha : Nf a) (h : ∀ f, wt f a = wt f b) : norm b = a := Nf.eq (norm_nf b) ha fun f => by rw [wt_norm, h f]
theorem norm_self {a : Rw} (ha : Nf a) : norm a = a := norm_of ha fun _ => rfl
/-- the product, pair by pair -/
def prod (a b : Rw) : Rw := a.flatMap fun p => b.map fun q => (p.1 + q.1, p.2 * q.2)
theorem wt_map (f : Int → Rat) (t : Int) (x : Rat) : ∀ b : Rw, wt f (b.map fun q => (t + q.1, x * q.2)) = x * wt (fun u => f (t + u)) b
  | [] => by simp only [List.map, wt]; grind
  | (u, y) :: r => by simp only [List.map, wt, wt_map f t x r]; grind
theorem wt_prod (f : Int → Rat) : ∀ a b : Rw, wt f (prod a b) = wt (fun t => wt (fun u => f (t + u)) b) a
  | [], b => rfl
  | (t, x) :: r, b => by
    show wt f ((b.map fun q => (t + q.1, x * q.2)) ++ prod r b) = _
    rw [wt_append, wt_map, wt_prod f r b]
    rfl
theorem wt_add (f g : Int → Rat) : ∀ a : Rw, wt (fun t => f t + g t) a = wt f a + wt g a
  | [] => by simp only [wt]; grind
  | (t, q) :: r => by simp only [wt, wt_add f g r]; grind
theorem wt_smul (x : Rat) (f : Int → Rat) : ∀ a : Rw, wt (fun t => x * f t) a = x * wt f a
  | [] => by simp only [wt]; grind
  | (t, q) :: r => by simp only [wt, wt_smul x f r]; grind
theorem wt_zero : ∀ a : Rw, wt (fun _ => 0) a = 0
  | [] => rfl
  | (t, q) :: r => by simp only [wt, wt_zero r]; grind
theorem wt_swap (F : Int → Int → Rat) : ∀ a b : Rw, wt (fun t => wt (F t) b) a = wt (fun u => wt (fun t => F t u) a) b
  | [], b => by simp only [wt]; rw [wt_zero]
  | (t, x) :: r, b => by
    simp only [wt]
    rw [wt_swap F r b, ← wt_smul, ← wt_add]
end Q7
set_option maxRecDepth 100000
set_option maxHeartbeats 4000000
namespace Q7
open PySem PySem.Spec PyProof.Rows L2
abbrev St7 := L2.St
/-! ### what stays: every tracked thing; every tuple -/
theorem same_new {H : Hp} {p : Addr} {o : HO} (h : H p = none) : Same H (upd H p o) := fun b u e => by
  rw [upd_ne (ne_of_none e h)]
  exact e
theorem same_newer {H H' : Hp} {p : Addr} {o : HO} (s : Same H H') (h : H' p = none) : Same H (upd H' p o) := s.trans (same_new h)
/-- an object that H does not know may change -/
theorem same_mut {H H' : Hp} {p : Addr} {o : HO} (s : Same H H') (h : H p = none) : Same H (upd H' p o) := fun b u e => by
  rw [upd_ne (ne_of_none e h)]
  exact s b u e
def TK (H H' : Hp) : Prop := ∀ a xs, Rd H a (.tup xs) → Rd H' a (.tup xs)
theorem TK.refl (H : Hp) : TK H H := fun _ _ h => h
theorem TK.trans {H H1 H2 : Hp} (a : TK H H1) (b : TK H1 H2) : TK H H2 := fun x o h => b x o (a x o h)
theorem same_tk {H H' : Hp} (s : Same H H') : TK H H' := fun a xs h => h.elim (fun h => .inl (s _ _ h)) fun ⟨o, h⟩ => .inr ⟨o, s _ _ h⟩
theorem tk_upd {H : Hp} {p : Addr} {o u : HO} (h : H p = some u) (hu : ∀ xs, u ≠ .tup xs) (hf : ∀ o xs, u ≠ .frz o (.tup xs)) : TK H (upd H p o) := fun a xs q => by
  rcases q with q | ⟨z, q⟩
  · exact .inl (by rw [upd_ne (ne_of q h fun e => hu xs e.symm)]; exact q)
  · exact .inr ⟨z, by rw [upd_ne (ne_of q h fun e => hf z xs e.symm)]; exact q⟩
theorem tk_lst {H : Hp} {p : Addr} {o : HO} {ys : List V} (h : H p = some (.lst ys)) : TK H (L2.upd H p o) := tk_upd h (fun _ e => by cases e) fun _ _ e => by cases e
theorem tk_dk {H : Hp} {p : Addr} {o : HO} {ys : List (Key × V)} (h : H p = some (.dK ys)) : TK H (L2.upd H p o) := tk_upd h (fun _ e => by cases e) fun _ _ e => by cases e
theorem tk_ins {H : Hp} {p C dx : Addr} {o : HO} {ys : List (Str × V)} (h : H p = some (.ins C dx ys)) : TK H (L2.upd H p o) := tk_upd h (fun _ e => by cases e) fun _ _ e => by cases e
section
variable {K : PySem.W.Frag} {H H' : Hp} {v : V} {q : Rat} {a : Addr} {xs : List V}
theorem sqT_tk (h : SqT K H a xs) (t : TK H H') : SqT K H' a xs := h.elim (fun h => .inl (t _ _ h)) .inr
theorem sqT_of (h : H a = some (.tup xs)) : SqT K H a xs := .inl (.inl h)
theorem sqL_of (h : H a = some (.lst xs)) : SqL K H a xs := .inl (.inl h)
/-! ### a fraction, a pair, a list of pairs -/
def FrV (K : PySem.W.Frag) (H : Hp) (v : V) (q : Rat) : Prop := ∃ p, v = .ref p ∧ SqT K H p [.int q.num, .int q.den]
def PrV (K : PySem.W.Frag) (H : Hp) (v : V) (t : Int × Rat) : Prop := ∃ p x, v = .ref p ∧ SqT K H p [.int t.1, x] ∧ FrV K H x t.2
abbrev PrsV (K : PySem.W.Frag) (H : Hp) : List V → Rw → Prop := Paired (PrV K H)
theorem frV_tk (h : FrV K H v q) (t : TK H H') : FrV K H' v q := by
  obtain ⟨p, e, s⟩ := h
  exact ⟨p, e, sqT_tk s t⟩
theorem prV_tk {x : Int × Rat} (h : PrV K H v x) (t : TK H H') : PrV K H' v x := by
  obtain ⟨p, y, e, s, f⟩ := h
  exact ⟨p, y, e, sqT_tk s t, frV_tk f t⟩
theorem prsV_tk : ∀ {xs : List V} {ps : Rw}, PrsV K H xs ps → TK H H' → PrsV K H' xs ps
  | _, _, .nil, _ => .nil
  | _, _, .cons h r, t => .cons (prV_tk h t) (prsV_tk r t)
def fr (q : Rat) : PyData := .tuple [.int q.num, .int q.den]
def pr (p : Int × Rat) : PyData := .tuple [.int p.1, fr p.2]
theorem frV_dp (h : FrV K H v q) : Dp K H v (fr q) := by
  obtain ⟨p, rfl, s⟩ := h
  exact .tup s (.cons (.int _) (.cons (.int _) .nil))
theorem prV_dp {x : Int × Rat} (h : PrV K H v x) : Dp K H v (pr x) := by
  obtain ⟨p, y, rfl, s, f⟩ := h
  exact .tup s (.cons (.int _) (.cons (frV_dp f) .nil))
theorem prsV_dp : ∀ {xs : List V} {ps : Rw}, PrsV K H xs ps → DpAll K H xs (ps.map pr)
  | _, _, .nil => .nil
  | _, _, .cons h r => .cons (prV_dp h) (prsV_dp r)
theorem pLen {α β : Type} {R : α → β → Prop} : ∀ {xs : List α} {ys : List β}, Paired R xs ys → xs.length = ys.length
  | _, _, .nil => rfl
  | _, _, .cons _ r => congrArg (· + 1) (pLen r)
theorem pGet {α β : Type} {R : α → β → Prop} : ∀ {xs : List α} {ys : List β}, Paired R xs ys → ∀ {i : Nat} {x : α}, xs[i]? = some x → ∃ y, ys[i]? = some y ∧ R x y
  | _, _, .nil, i, x, h => by simp at h
  | _, _, .cons r t, 0, x, h => by simp at h; subst h; exact ⟨_, rfl, r⟩
  | _, _, .cons r t, i + 1, x, h => by
    obtain ⟨y, h1, h2⟩ := pGet t (i := i) (x := x) (by simpa using h)
    exact ⟨y, by simpa using h1, h2⟩
theorem pApp {α β : Type} {R : α → β → Prop} : ∀ {xs xs' : List α} {ys ys' : List β}, Paired R xs ys → Paired R xs' ys' → Paired R (xs ++ xs') (ys ++ ys')
  | _, _, _, _, .nil, h => h
  | _, _, _, _, .cons r t, h => .cons r (pApp t h)
theorem pImp {α β : Type} {R S : α → β → Prop} (f : ∀ a b, R a b → S a b) : ∀ {xs : List α} {ys : List β}, Paired R xs ys → Paired S xs ys
  | _, _, .nil => .nil
  | _, _, .cons r t => .cons (f _ _ r) (pImp f t)
theorem pRev {α β : Type} {R : α → β → Prop} {xs : List α} {ys : List β} (h : Paired R xs ys) : Paired R xs.reverse ys.reverse := by
  induction h with
  | nil => exact .nil
  | cons r _ ih => rw [List.reverse_cons, List.reverse_cons]; exact pApp ih (.cons r .nil)
end
/-! ### == of this data -/
theorem eqv_fr (p q : Rat) : PyData.eqv (fr p) (fr q) = decide (p = q) := by
  simp only [fr, PyData.eqv, PyData.eqvAll, Bool.and_true]
  by_cases h : p = q
  · subst h; simp
  · rw [decide_eq_false h]
    by_cases h1 : p.num = q.num
    · have h2 : p.den ≠ q.den := fun e => h (Rat.ext h1 e)
      have : ((p.den : Int) == (q.den : Int)) = false := by simp; omega
      rw [this, Bool.and_false]
    · have : (p.num == q.num) = false := by simp [h1]
      rw [this, Bool.false_and]
theorem eqv_pr (p q : Int × Rat) : PyData.eqv (pr p) (pr q) = decide (p = q) := by
  have e : PyData.eqv (pr p) (pr q) = ((p.1 == q.1) && PyData.eqv (fr p.2) (fr q.2)) := by
    simp only [pr, PyData.eqv, PyData.eqvAll, Bool.and_true]
  rw [e, eqv_fr]
  obtain ⟨a, b⟩ := p
  obtain ⟨c, d⟩ := q
  by_cases h1 : a = c
  · subst h1; simp [Prod.ext_iff]
  · simp [Prod.ext_iff, h1]
theorem eqv_prs : ∀ a b : Rw, PyData.eqvAll (a.map pr) (b.map pr) = decide (a = b)
  | [], [] => by simp [PyData.eqvAll]
  | [], _ :: _ => by simp [PyData.eqvAll]
  | _ :: _, [] => by simp [PyData.eqvAll]
  | p :: a, q :: b => by
    simp only [List.map_cons, PyData.eqvAll, eqv_pr, eqv_prs a b]
    by_cases h1 : p = q
    · by_cases h2 : a = b
      · subst h1 h2; simp
      · simp [h1, h2]
    · simp [h1]
theorem lay_fr (q : Rat) : (fr q).canLay0 = true := by simp [fr, PyData.canLay0, PyData.canLayAll0]
theorem dep_fr (q : Rat) : (fr q).depth = 1 := by simp [fr, PyData.depth, PyData.depthAll]
theorem sh_fr (q : Rat) : SeqAt.shaped (fr q) = true := by
  show ((fr q).canLay0 && decide ((fr q).depth ≤ 64)) = true
  rw [lay_fr, dep_fr]; decide
theorem lay_pr (q : Int × Rat) : (pr q).canLay0 = true := by simp [pr, PyData.canLay0, PyData.canLayAll0, lay_fr]
theorem dep_pr (q : Int × Rat) : (pr q).depth = 2 := by simp [pr, PyData.depth, PyData.depthAll, dep_fr]
theorem lay_prs : ∀ a : Rw, PyData.canLayAll0 (a.map pr) = true
  | [] => by simp [PyData.canLayAll0]
  | p :: a => by simp [PyData.canLayAll0, lay_pr p, lay_prs a]
theorem dep_prs : ∀ a : Rw, PyData.depthAll (a.map pr) ≤ 2
  | [] => by simp [PyData.depthAll]
  | p :: a => by
    have := dep_prs a
    have := dep_pr p
    simp only [List.map_cons, PyData.depthAll]
    omega
theorem sh_prs (a : Rw) : SeqAt.shaped (.list (a.map pr)) = true := by
  have h := dep_prs a
  have h2 : PyData.depth (.list (a.map pr)) ≤ 64 := by simp only [PyData.depth]; omega
  show (PyData.canLay0 (.list (a.map pr)) && decide (PyData.depth (.list (a.map pr)) ≤ 64)) = true
  rw [Bool.and_eq_true]
  exact ⟨by simp only [PyData.canLay0]; exact lay_prs a, decide_eq_true h2⟩
theorem eqv_lists (a b : Rw) : PyData.eqv (.list (a.map pr)) (.list (b.map pr)) = decide (a = b) := by simp only [PyData.eqv]; exact eqv_prs a b
theorem sh_ints (ns : List Int) : SeqAt.shaped (.list (ns.map PyData.int)) = true := PySem.W.shaped_ints ns

/-! ### // by any divisor but 0 -/
def CDivA (_ j : Int) : Prop := j ≠ 0 ∧ j.natAbs.log2 < 9000
theorem op_fdivA {X : Cx} : OpR X (binaryOp .FloorDiv) (rI CDivA fun i j => .int (i.fdiv j)) := opI fun i j _ _ _ _ _ hc q => floordiv_int hc.1 q (.inl (PyProof.noPylong_of_log2 hc.2))
theorem cdiv_of {i j : Int} {b : Nat} (h0 : j ≠ 0) (h : j.natAbs < 2 ^ b) (hb : 0 < b) (h9 : b ≤ 9000) : CDivA i j := ⟨h0, Nat.lt_of_lt_of_le (PySem.Flt.log2_lt_of hb h) h9⟩
theorem cmul_of {i j : Int} {a b : Nat} (ha : i.natAbs < 2 ^ a) (hb : j.natAbs < 2 ^ b) (h : a + b ≤ 900000) : CMulW i j := by
  refine wide_mul (a := a + 1) (b := b + 1) (Nat.lt_of_lt_of_le ha (Nat.pow_le_pow_right (by omega) (by omega))) (Nat.lt_of_lt_of_le hb (Nat.pow_le_pow_right (by omega) (by omega))) (by omega) (by omega) (by omega)

/-! ### == of two dicts whose values are data -/
def KvD (K : PySem.W.Frag) (H : Hp) : List (Key × V) → List (Key × PyData) → Prop := Paired fun p q => p.1 = q.1 ∧ Dp K H p.2 q.2 ∧ SeqAt.shaped q.2 = true
def findD (es : List (Key × PyData)) (k : Key) : Option PyData := (es.find? fun q => decide (q.1 = k)).map (·.2)
def eqKv (ds es : List (Key × PyData)) : Bool := ds.length == es.length && ds.all fun p => match findD es p.1 with | some e => PyData.eqv p.2 e | none => false
section
variable {X : Cx} {pins : List (Addr × Obj)} {σ : St7} {H : Hp} {s : Shared}
theorem find_kv (I : Inv X pins σ H s) (k : Key) : ∀ {ls : List (Key × V)} {es : List (Key × PyData)} {vb : List (Key × Value)}, KvD X.K H ls es → KV ls vb →
    (findD es k = none ∧ PySem.valueAt vb k = none) ∨ ∃ e y as, findD es k = some e ∧ PySem.valueAt vb k = some y ∧ Reads s.heap y e as ∧ SeqAt.shaped e = true
  | [], _, _, h, r => by
    cases h
    cases r
    exact .inl ⟨rfl, rfl⟩
  | p :: ls, _, _, h, r => by
    cases h with
    | @cons _ q _ es h1 h2 =>
      cases r with
      | @cons _ w _ vb r1 r2 =>
        obtain ⟨e1, d1, s1⟩ := h1
        obtain ⟨c1, c2⟩ := r1
        by_cases hk : p.1 = k
        · obtain ⟨as, rd⟩ := Dp.reads I q.2 p.2 w.2 d1 c2
          refine .inr ⟨q.2, w.2, as, ?_, ?_, rd, s1⟩
          · unfold findD
            rw [List.find?_cons_of_pos (by rw [← e1]; exact decide_eq_true hk)]
            rfl
          · unfold PySem.valueAt
            rw [List.find?_cons_of_pos (by rw [← c1]; exact decide_eq_true hk)]
            rfl
        · rcases find_kv I k h2 r2 with ⟨a, b⟩ | ⟨e, y, as, a, b, c, d⟩
          · refine .inl ⟨?_, ?_⟩
            · unfold findD
              rw [List.find?_cons_of_neg (by rw [← e1]; simpa using hk)]
              exact a
            · unfold PySem.valueAt
              rw [List.find?_cons_of_neg (by rw [← c1]; simpa using hk)]
              exact b
          · refine .inr ⟨e, y, as, ?_, ?_, c, d⟩
            · unfold findD
              rw [List.find?_cons_of_neg (by rw [← e1]; simpa using hk)]
              exact a
            · unfold PySem.valueAt
              rw [List.find?_cons_of_neg (by rw [← c1]; simpa using hk)]
              exact b
theorem hits_kv (I : Inv X pins σ H s) {A : Around} (hu : A.units + 64 < cLine) {ls : List (Key × V)} {es : List (Key × PyData)} {vb : List (Key × Value)} (hl : KvD X.K H ls es) (rb : KV ls vb) :
    ∀ {ks : List (Key × V)} {ds : List (Key × PyData)} {va : List (Key × Value)}, KvD X.K H ks ds → KV ks va →
      PySem.W.KeqHitsP X.prog X.w A s vb va (ds.all fun p => match findD es p.1 with | some e => PyData.eqv p.2 e | none => false)
  | [], _, _, h, r => by
    cases h
    cases r
    exact .nil
  | p :: ks, _, _, h, r => by
    cases h with
    | @cons _ q _ ds h1 h2 =>
      cases r with
      | @cons _ w _ va r1 r2 =>
        obtain ⟨e1, d1, s1⟩ := h1
        obtain ⟨c1, c2⟩ := r1
        obtain ⟨k, z⟩ := w
        simp only at c1 c2
        subst c1
        rw [List.all_cons, ← e1]
        rcases find_kv I p.1 hl rb with ⟨a, b⟩ | ⟨e, y, bs, a, b, c, d⟩
        · rw [a]
          exact .miss b
        · rw [a]
          obtain ⟨as, rd⟩ := Dp.reads I q.2 p.2 z d1 c2
          exact .hit b (SeqAt.eqAt_reads q.2 e A s z y as bs rd c (SeqAt.canLay_of_shaped s1) (SeqAt.canLay_of_shaped d) (SeqAt.room_of_shaped s1 hu)).eqP (hits_kv I hu hl rb h2 r2)
def rEqDd (K : PySem.W.Frag) : R2 := fun x y H Q => ∃ a b ks ls ds es, x = .ref a ∧ y = .ref b ∧ H a = some (.dK ks) ∧ H b = some (.dK ls) ∧ KvD K H ks ds ∧ KvD K H ls es ∧ Q (.bl (eqKv ds es)) H
end
theorem op_eqDd {X : Cx} (hu : X.A.units + 70 < cLine) : OpR X (compareOp .Eq) (rEqDd X.K) := by
  intro pins s σ H x y v u Q I rx ry h
  obtain ⟨a, b, ks, ls, ds, es, rfl, rfl, ha, hb, hk, hl, q⟩ := h
  cases rx
  cases ry
  obtain ⟨_, ya, va, ra, da⟩ := (show ObjOk X.prog X.w H s.heap a (.dK ks) from I.hok a _ ha)
  obtain ⟨_, yb, vb, rb, db⟩ := (show ObjOk X.prog X.w H s.heap b (.dK ls) from I.hok b _ hb)
  unfold compareOp
  refine PySem.W.rcP_dicts (knd := mixKind X.prog X.w) ya yb da db (by omega) (fun _ => hits_kv I (by show X.A.units + 1 + 64 < cLine; omega) hl rb hk ra) _ _ ?_
  have l1 : va.length = ds.length := by rw [← ra.length, Paired.length hk]
  have l2 : vb.length = es.length := by rw [← rb.length, Paired.length hl]
  rw [l1, l2]
  exact ⟨.bl _, H, I, rfl, q⟩
end Q7
set_option maxRecDepth 100000
set_option maxHeartbeats 4000000
namespace Q7
open PySem PySem.Spec PyProof.Rows L2
/-! ### a head's facts, and tests of one's own beside them -/
abbrev Tst : Type := PySem.W.Frag → Bool
def hookX (n : Nat) (fa : List He.Fa) (fn : List He.DefD) (ex : List Tst) : PySem.W.Hook where
  α := He.AlD × Bool
  obs := fun s => (He.obsD fa fn (He.frG s.heap.get? (He.asD s.heap.get? n)), ex.all fun f => f (He.frG s.heap.get? (He.asD s.heap.get? n)))
  val := fun _ => (He.valD fn, true)
  says := fun _ h => ∃ K : PySem.W.Frag, K.In h ∧ He.SaysD fa fn K ∧ (ex.all fun f => f K) = true
  of := fun _ _ e => ⟨_, He.frG_in, congrArg (fun z : He.AlD × Bool => z.1) e, congrArg (fun z : He.AlD × Bool => z.2) e⟩
  keeps := fun _ _ _ ⟨K, hK, c⟩ k => ⟨K, PySem.W.Frag.In.keeps hK k, c⟩
def obX (n : Nat) (fa : List He.Fa) (fn : List He.DefD) (ex : List Tst) (g : Addr → Option Obj) : He.AlD × Bool := (He.obsD fa fn (He.frG g (He.asD g n)), ex.all fun f => f (He.frG g (He.asD g n)))
theorem obX_eq {n : Nat} {fa : List He.Fa} {fn : List He.DefD} {ex : List Tst} {g : Addr → Option Obj} {s : Shared} (h : ∀ a, g a = s.heap.get? a) : obX n fa fn ex g = (hookX n fa fn ex).obs s := by
  have e : g = s.heap.get? := funext h
  rw [e] <;> rfl
theorem tst_at {ex : List Tst} {K : PySem.W.Frag} (h : (ex.all fun f => f K) = true) (i : Nat) {f : Tst} (e : ex[i]? = some f := by rfl) : f K = true := List.all_eq_true.mp h f (List.mem_of_getElem? e)
/-! ### such tests -/
def tFind (x : Str) (m : Str) (v : Value) : Tst := fun K => He.eqO (PySem.W.findIn K (.ref (He.ga K x)) m) (some (some v))
def tGlo (x : Str) (v : Value) : Tst := fun K => He.eqO (PySem.W.nsIn K mainGlobals x) (some (some v))
theorem tGlo_ok {x : Str} {v : Value} {K : PySem.W.Frag} {h : Heap} {mg : Str → Option Value} (X : K.In h) (G : h.Ns mainGlobals mg) (c : tGlo x v K = true) : mg x = some v := PySem.W.mg_of X G (He.eqO_ok c)
def tKit (a b : String) (r : Bool) : Tst := fun K => decide (PySem.W.kitOne K (.type a) (.type b) = some r)
theorem tKit_ok {a b : String} {r : Bool} {K : PySem.W.Frag} (c : tKit a b r K = true) : PySem.W.kitOne K (.type a) (.type b) = some r := of_decide_eq_true c
def tFirst (x : Str) : Tst := fun K => PySem.W.selfFirst K (He.ga K x)
/-- an instance of the class at x is one of it -/
def tIns (x : Str) : Tst := fun K => He.eqO (PySem.W.findIn K (.ref (He.ga K x)) "__class__") (some (some (.builtin "object.__class__"))) &&
  (He.eqO (PySem.W.specialIn K (.builtin "object.__class__") "__get__") (some (some (.builtin "getset_descriptor.__get__"))) && (decide (PySem.W.takesIn K (.builtin "object.__class__") = some true) &&
  (decide (PySem.W.mroIn K (He.ga K x) (.type "object") = some true) && decide (PySem.W.kitOne K (.ref (He.ga K x)) (.ref (He.ga K x)) = some true))))
structure InsC (K : PySem.W.Frag) (C : Addr) : Prop where
  ha : PySem.W.findIn K (.ref C) "__class__" = some (some (.builtin "object.__class__"))
  hn : PySem.W.specialIn K (.builtin "object.__class__") "__get__" = some (some (.builtin "getset_descriptor.__get__"))
  ht : PySem.W.takesIn K (.builtin "object.__class__") = some true
  hm : PySem.W.mroIn K C (.type "object") = some true
  is : PySem.W.kitOne K (.ref C) (.ref C) = some true
theorem tIns_ok {x : Str} {K : PySem.W.Frag} (c : tIns x K = true) : InsC K (He.ga K x) := by
  obtain ⟨h1, c⟩ := He.ba c
  obtain ⟨h2, c⟩ := He.ba c
  obtain ⟨h3, c⟩ := He.ba c
  obtain ⟨h4, h5⟩ := He.ba c
  exact ⟨He.eqO_ok h1, He.eqO_ok h2, of_decide_eq_true h3, of_decide_eq_true h4, of_decide_eq_true h5⟩
theorem InsC.ty {K : PySem.W.Frag} {C : Addr} (i : InsC K C) (cl : Cls K C) {H : Hp} {a dx : Addr} {fs : List (Str × V)} (e : H a = some (.ins C dx fs)) : TyX K H (.ref a) (.ref C) := .base (.ins e cl i.ha i.hn i.ht i.hm)
/-- the class at x, straight below object, has an __eq__ and no __ne__ -/
def tNe (x : Str) : Tst := fun K => match K.lookup (He.ga K x) with
  | some ⟨.type t, _, .cls cd, sl⟩ => decide (t = "type") && (decide (cd.mro = [.ref (He.ga K x), .type "object"]) && (cd.hasDict && (!cd.hasDel && ((match sl.toList with
      | [_, _, _, _, some (.builtin _), _] => true
      | _ => false) &&
      (PySem.W.nsOkIn K cd.ns && (He.eqO (PySem.W.nsIn K cd.ns "__eq__") (some (some (.ref (He.ma K (He.ga K x) "__eq__")))) && (He.eqO (PySem.W.nsIn K cd.ns "__ne__") (some none) &&
      (match K.lookup (He.ma K (He.ga K x) "__eq__") with
        | some ⟨.type f, _, _, _⟩ => decide (f = "function")
        | _ => false))))))))
  | _ => false
theorem tNe_ok {x : Str} {K : PySem.W.Frag} (c : tNe x K = true) : NeTxt K (He.ga K x) (He.ma K (He.ga K x) "__eq__") := by
  unfold tNe at c
  cases e : K.lookup (He.ga K x) with
  | none => rw [e] at c; cases c
  | some o =>
    rw [e] at c
    obtain ⟨oc, od, dt, sl⟩ := o
    cases oc with
    | type t =>
      cases dt with
      | cls cd =>
        obtain ⟨h1, c⟩ := He.ba c
        obtain ⟨h2, c⟩ := He.ba c
        obtain ⟨h3, c⟩ := He.ba c
        obtain ⟨h4, c⟩ := He.ba c
        obtain ⟨h5, c⟩ := He.ba c
        obtain ⟨h6, c⟩ := He.ba c
        obtain ⟨h7, c⟩ := He.ba c
        obtain ⟨h8, h9⟩ := He.ba c
        have e1 := of_decide_eq_true h1
        have e2 := of_decide_eq_true h2
        subst e1
        obtain ⟨nm, bs, mro, ns, qn, hdct, sn, sub, ab, col, hd⟩ := cd
        simp only at e2 h3 h4 h6 h7 h8
        subst e2
        cases hdct with
        | false => cases h3
        | true =>
          cases hd with
          | true => cases h4
          | false =>
            obtain ⟨sl⟩ := sl
            simp only at h5
            rcases sl with _ | ⟨a0, _ | ⟨a1, _ | ⟨a2, _ | ⟨a3, _ | ⟨a4, _ | ⟨a5, _ | ⟨a6, sl⟩⟩⟩⟩⟩⟩⟩
            case cons.cons.cons.cons.cons.cons.nil =>
              rcases a4 with _ | a4
              · cases h5
              cases a4 with
              | builtin n =>
                refine ⟨⟨nm, qn, ns, bs, sn, sub, ab, col, od, a0, a1, a2, a3, a5, n, e, h6, He.eqO_ok h7, He.eqO_ok h8⟩, ?_⟩
                cases e9 : K.lookup (He.ma K (He.ga K x) "__eq__") with
                | none => rw [e9] at h9; cases h9
                | some of =>
                  rw [e9] at h9
                  obtain ⟨fc, fdd, fdt, fsl⟩ := of
                  cases fc with
                  | type f => exact ⟨_, rfl, by rw [of_decide_eq_true h9]⟩
                  | _ => cases h9
              | _ => cases h5
            all_goals first | (cases h5; done) | (simp at h5; done) | (rcases a4 with _ | ⟨_⟩ <;> first | (cases h5; done) | (simp at h5; done))
      | _ => cases c
    | _ => cases dt <;> cases c
end Q7
set_option maxHeartbeats 2000000
namespace Q7
/-- q is n / D with n of size at most M -/
def ND (D M : Nat) (q : Rat) : Prop := ∃ n : Int, q = Rat.divInt n D ∧ n.natAbs ≤ M
theorem ND.mono {D M M' : Nat} {q : Rat} (h : ND D M q) (l : M ≤ M') : ND D M' q := by
  obtain ⟨n, e, b⟩ := h
  exact ⟨n, e, by omega⟩
theorem ND.zero (D : Nat) : ND D 0 0 := ⟨0, by rw [Rat.zero_divInt], by decide⟩
theorem ND.zeroM (D M : Nat) : ND D M 0 := (ND.zero D).mono (by omega)
theorem ND.add {D M M' : Nat} {p q : Rat} (hD : 0 < D) (hp : ND D M p) (hq : ND D M' q) : ND D (M + M') (p + q) := by
  obtain ⟨n, rfl, b⟩ := hp
  obtain ⟨m, rfl, c⟩ := hq
  refine ⟨n + m, ?_, by omega⟩
  have hD' : (D : Int) ≠ 0 := by omega
  rw [Rat.divInt_add_divInt _ _ hD' hD', ← Int.add_mul]
  exact Rat.divInt_mul_right (by omega)
theorem ND.neg {D M : Nat} {q : Rat} (h : ND D M q) : ND D M (-q) := by
  obtain ⟨n, rfl, b⟩ := h
  exact ⟨-n, by rw [Rat.neg_divInt], by omega⟩
theorem ND.mul {D M D' M' : Nat} {p q : Rat} (hp : ND D M p) (hq : ND D' M' q) : ND (D * D') (M * M') (p * q) := by
  obtain ⟨n, rfl, b⟩ := hp
  obtain ⟨m, rfl, c⟩ := hq
  refine ⟨n * m, ?_, ?_⟩
  · rw [Rat.divInt_mul_divInt]
    rw [Int.natCast_mul]
  · rw [Int.natAbs_mul]
    exact Nat.mul_le_mul b c
theorem ND.scale {D M k : Nat} {q : Rat} (hk : 0 < k) (h : ND D M q) : ND (D * k) (M * k) q := by
  obtain ⟨n, rfl, b⟩ := h
  refine ⟨n * k, ?_, ?_⟩
  · rw [Int.natCast_mul]
    exact (Rat.divInt_mul_right (by omega)).symm
  · rw [Int.natAbs_mul, Int.natAbs_natCast]
    exact Nat.mul_le_mul b (Nat.le_refl _)
theorem ND.B {D M n : Nat} {q : Rat} (hD : 0 < D) (h : ND D M q) (h1 : D < 2 ^ n) (h2 : M < 2 ^ n) : B n q := by
  obtain ⟨m, rfl, b⟩ := h
  exact B.div (by omega) (by omega) (by omega)
/-- a list of pairs within bounds -/
structure Gd (D M T L : Nat) (ps : Rw) : Prop where
  nd : ∀ p ∈ ps, ND D M p.2
  lo : ∀ p ∈ ps, 0 ≤ p.1
  hi : ∀ p ∈ ps, p.1 ≤ T
  len : ps.length ≤ L
theorem Gd.mono {D M T L M' T' L' : Nat} {ps : Rw} (h : Gd D M T L ps) (h1 : M ≤ M') (h2 : T ≤ T') (h3 : L ≤ L') : Gd D M' T' L' ps :=
  ⟨fun p hp => (h.nd p hp).mono h1, h.lo, fun p hp => by have := h.hi p hp; omega, by have := h.len; omega⟩
theorem Gd.app {D M T L L' : Nat} {a b : Rw} (ha : Gd D M T L a) (hb : Gd D M T L' b) : Gd D M T (L + L') (a ++ b) := by
  refine ⟨?_, ?_, ?_, ?_⟩
  · intro p hp; rcases List.mem_append.mp hp with h | h; exact ha.nd p h; exact hb.nd p h
  · intro p hp; rcases List.mem_append.mp hp with h | h; exact ha.lo p h; exact hb.lo p h
  · intro p hp; rcases List.mem_append.mp hp with h | h; exact ha.hi p h; exact hb.hi p h
  · rw [List.length_append]; have := ha.len; have := hb.len; omega
theorem Gd.sub {D M T L : Nat} {a b : Rw} (h : Gd D M T L b) (s : a.Sublist b) : Gd D M T L a :=
  ⟨fun p hp => h.nd p (s.subset hp), fun p hp => h.lo p (s.subset hp), fun p hp => h.hi p (s.subset hp), Nat.le_trans s.length_le h.len⟩
theorem Gd.prod {D M T L D' M' T' L' : Nat} {a b : Rw} (ha : Gd D M T L a) (hb : Gd D' M' T' L' b) : Gd (D * D') (M * M') (T + T') (L * L') (prod a b) := by
  refine ⟨?_, ?_, ?_, ?_⟩
  · intro p hp
    obtain ⟨x, hx, h⟩ := List.mem_flatMap.mp hp
    obtain ⟨y, hy, rfl⟩ := List.mem_map.mp h
    exact (ha.nd x hx).mul (hb.nd y hy)
  · intro p hp
    obtain ⟨x, hx, h⟩ := List.mem_flatMap.mp hp
    obtain ⟨y, hy, rfl⟩ := List.mem_map.mp h
    have := ha.lo x hx; have := hb.lo y hy
    show 0 ≤ x.1 + y.1
    omega
  · intro p hp
    obtain ⟨x, hx, h⟩ := List.mem_flatMap.mp hp
    obtain ⟨y, hy, rfl⟩ := List.mem_map.mp h
    have := ha.hi x hx; have := hb.hi y hy
    show x.1 + y.1 ≤ _
    omega
  · have e : (Q7.prod a b).length = a.length * b.length := by
      unfold Q7.prod
      rw [List.length_flatMap]
      simp [List.map_const']
    rw [e]
    exact Nat.mul_le_mul ha.len hb.len
theorem ND.wt {D M : Nat} (hD : 0 < D) (t : Int) : ∀ {ps : Rw}, (∀ p ∈ ps, ND D M p.2) → ND D (ps.length * M) (wt (at_ t) ps)
  | [], _ => by simpa [Q7.wt] using ND.zero D
  | (u, q) :: r, h => by
    have ih := ND.wt hD t (ps := r) fun p hp => h p (List.mem_cons_of_mem _ hp)
    have h1 := h (u, q) List.mem_cons_self
    rw [List.length_cons, Nat.succ_mul, Nat.add_comm]
    show ND D (M + r.length * M) (q * at_ t u + Q7.wt (at_ t) r)
    refine ND.add hD ?_ ih
    unfold at_
    by_cases e : u = t
    · rw [if_pos e, Rat.mul_one]; exact h1
    · rw [if_neg e, Rat.mul_zero]; exact ND.zeroM D M
theorem Nf.wt_mem : ∀ {a : Rw}, Nf a → ∀ p ∈ a, wt (at_ p.1) a = p.2
  | (t, q) :: r, h, p, hp => by
    rcases List.mem_cons.mp hp with rfl | hp
    · exact wt_at_head fun x hx => by have := h.head x hx; show x.1 ≠ t; simp only at this; omega
    · have e := Nf.wt_mem h.tail p hp
      have l := h.head p hp
      show q * at_ p.1 t + wt (at_ p.1) r = _
      unfold at_ at *
      rw [if_neg (by simp only at l; omega), Rat.mul_zero, Rat.zero_add]
      exact e
theorem len_range : ∀ {l : List Int} {lo hi : Int}, l.Pairwise (· < ·) → (∀ x ∈ l, lo ≤ x ∧ x ≤ hi) → lo ≤ hi + 1 → (l.length : Int) ≤ hi + 1 - lo
  | [], lo, hi, _, _, h => by simp only [List.length_nil]; omega
  | x :: r, lo, hi, hp, hb, h => by
    have h1 := hb x List.mem_cons_self
    have h2 := List.pairwise_cons.mp hp
    have := len_range (l := r) (lo := x + 1) (hi := hi) h2.2 (fun y hy => ⟨by have := h2.1 y hy; omega, (hb y (List.mem_cons_of_mem _ hy)).2⟩) (by omega)
    rw [List.length_cons]
    omega
theorem look_mem : ∀ {m : Rw} {t : Int}, (∀ p ∈ m, p.1 ≠ t) → look m t = 0
  | [], _, _ => rfl
  | (u, x) :: r, t, h => by
    unfold look
    rw [if_neg (h (u, x) List.mem_cons_self)]
    exact look_mem fun p hp => h p (List.mem_cons_of_mem _ hp)
theorem look_wt : ∀ {m : Rw}, (m.map (·.1)).Nodup → ∀ t, look m t = wt (at_ t) m
  | [], _, t => rfl
  | (u, x) :: r, h, t => by
    have h1 := List.nodup_cons.mp h
    unfold look
    by_cases e : u = t
    · subst e
      rw [if_pos rfl]
      exact (wt_at_head fun p hp e => h1.1 (List.mem_map.mpr ⟨p, hp, e⟩)).symm
    · rw [if_neg e, look_wt h1.2 t]
      show _ = x * at_ t u + _
      unfold at_
      rw [if_neg e, Rat.mul_zero, Rat.zero_add]
theorem look_sums (ps : Rw) (t : Int) : look (sums ps) t = wt (at_ t) ps := by rw [look_wt (sums_nodup ps), wt_sums]
theorem sums_keys_go : ∀ (ps m : Rw) (k : Int), k ∈ (ps.foldl (fun m p => putS m p.1 p.2) m).map (·.1) → k ∈ m.map (·.1) ∨ k ∈ ps.map (·.1)
  | [], m, k, h => .inl h
  | (t, q) :: r, m, k, h => by
    rcases sums_keys_go r _ k h with h | h
    · rw [put_keys] at h
      by_cases h2 : t ∈ m.map (·.1)
      · rw [if_pos h2] at h; exact .inl h
      · rw [if_neg h2] at h
        rcases List.mem_append.mp h with h | h
        · exact .inl h
        · rw [List.mem_singleton] at h
          subst h
          exact .inr (by simp)
    · exact .inr (List.mem_cons_of_mem _ h)
theorem sums_keys {ps : Rw} {k : Int} (h : k ∈ (sums ps).map (·.1)) : k ∈ ps.map (·.1) := by
  rcases sums_keys_go ps [] k h with h | h
  · simp at h
  · exact h
theorem put_len (t : Int) (q : Rat) (m : Rw) : (putS m t q).length ≤ m.length + 1 := by
  have := congrArg List.length (put_keys t q m)
  rw [List.length_map] at this
  rw [this]
  split <;> simp
theorem sums_len_go : ∀ (ps m : Rw), (ps.foldl (fun m p => putS m p.1 p.2) m).length ≤ m.length + ps.length
  | [], m => by simp
  | (t, q) :: r, m => by
    have h := sums_len_go r (putS m t q)
    have := put_len t q m
    simp only [List.foldl, List.length_cons]
    omega
theorem sums_len (ps : Rw) : (sums ps).length ≤ ps.length := by
  have := sums_len_go ps []
  simpa [sums] using this
theorem norm_sub (ps : Rw) : ∀ p ∈ norm ps, p.1 ∈ ps.map (·.1) := by
  intro p hp
  unfold norm pick at hp
  obtain ⟨k, hk, rfl⟩ := List.mem_map.mp (List.mem_filter.mp hp).1
  exact sums_keys (List.mem_mergeSort.mp hk)
theorem norm_len (ps : Rw) : (norm ps).length ≤ ps.length := by
  unfold norm pick
  refine Nat.le_trans (List.length_filter_le _ _) ?_
  rw [List.length_map, List.length_mergeSort, List.length_map]
  exact sums_len ps
theorem Gd.norm {D M T L : Nat} {ps : Rw} (hD : 0 < D) (h : Gd D M T L ps) : Gd D (L * M) T L (norm ps) := by
  have key : ∀ p ∈ Q7.norm ps, 0 ≤ p.1 ∧ p.1 ≤ T := fun p hp => by
    obtain ⟨x, hx, e⟩ := List.mem_map.mp (norm_sub ps p hp)
    rw [← e]
    exact ⟨h.lo x hx, h.hi x hx⟩
  refine ⟨fun p hp => ?_, fun p hp => (key p hp).1, fun p hp => (key p hp).2, Nat.le_trans (norm_len ps) h.len⟩
  rw [← (norm_nf ps).wt_mem p hp, wt_norm]
  exact (ND.wt hD _ h.nd).mono (Nat.mul_le_mul h.len (Nat.le_refl _))
/-- as many as ticks, at most -/
theorem Gd.short {D M T L : Nat} {a : Rw} (n : Nf a) (h : Gd D M T L a) : Gd D M T (T + 1) a := by
  refine ⟨h.nd, h.lo, h.hi, ?_⟩
  have := len_range (l := a.map (·.1)) (lo := 0) (hi := T) (List.pairwise_map.mpr n.asc) (fun x hx => by
    obtain ⟨p, hp, rfl⟩ := List.mem_map.mp hx
    exact ⟨h.lo p hp, h.hi p hp⟩) (by omega)
  rw [List.length_map] at this
  omega
theorem Gd.normT {D M T L : Nat} {ps : Rw} (hD : 0 < D) (h : Gd D M T L ps) : Gd D (L * M) T (T + 1) (Q7.norm ps) := (h.norm hD).short (norm_nf ps)
theorem ND.sum {D M : Nat} (hD : 0 < D) : ∀ {qs : List Rat}, (∀ q ∈ qs, ND D M q) → ND D (qs.length * M) qs.sum
  | [], _ => by simpa using ND.zero D
  | q :: r, h => by
    have ih := ND.sum hD (qs := r) fun p hp => h p (List.mem_cons_of_mem _ hp)
    rw [List.length_cons, Nat.succ_mul, Nat.add_comm, List.sum_cons]
    exact ND.add hD (h q List.mem_cons_self) ih
/-- within the bounds of one row -/
def Gq (ps : Rw) : Prop := ∃ D M T, Gd D M T 63 ps ∧ 0 < D ∧ D < 2 ^ 2900 ∧ M < 2 ^ 2900
theorem Gq.of {D M T L : Nat} {ps : Rw} (h : Gd D M T L ps) (hD : 0 < D) (h1 : D < 2 ^ 2900) (h2 : M < 2 ^ 2900) (h3 : L ≤ 63) : Gq ps := ⟨D, M, T, h.mono (Nat.le_refl _) (Nat.le_refl _) h3, hD, h1, h2⟩
theorem pow_le' {a b : Nat} (h : a ≤ b) : (2 : Nat) ^ a ≤ 2 ^ b := Nat.pow_le_pow_right (by omega) h
theorem lt_1000 {D : Nat} (h : D < 2 ^ 2900) : D < 2 ^ 3000 := Nat.lt_of_lt_of_le h (pow_le' (by omega))
theorem lt_1006 {M n : Nat} (h : M < 2 ^ 2900) (hn : n ≤ 64) : n * M < 2 ^ 3000 := by
  have h1 : n * M ≤ 2 ^ 6 * M := Nat.mul_le_mul (by omega) (Nat.le_refl _)
  have h2 : 2 ^ 6 * M < 2 ^ 6 * 2 ^ 2900 := Nat.mul_lt_mul_of_pos_left h (by omega)
  rw [← Nat.pow_add] at h2
  have h3 := pow_le' (show 6 + 2900 ≤ 3000 by omega)
  omega
theorem Gq.mem {ps : Rw} (h : Gq ps) : ∀ p ∈ ps, B 3000 p.2 := fun p hp => by
  obtain ⟨D, M, T, g, hD, h1, h2⟩ := h
  exact (g.nd p hp).B hD (lt_1000 h1) (Nat.lt_of_lt_of_le h2 (pow_le' (by omega)))
theorem Gq.lo {ps : Rw} (h : Gq ps) : ∀ p ∈ ps, 0 ≤ p.1 := fun p hp => by
  obtain ⟨D, M, T, g, _⟩ := h
  exact g.lo p hp
theorem Gq.len {ps : Rw} (h : Gq ps) : ps.length ≤ 63 := by
  obtain ⟨D, M, T, g, _⟩ := h
  exact g.len
theorem Gq.sub {a b : Rw} (h : Gq b) (s : a.Sublist b) : Gq a := by
  obtain ⟨D, M, T, g, r⟩ := h
  exact ⟨D, M, T, g.sub s, r⟩
theorem Gq.look {ps : Rw} (h : Gq ps) (i : Nat) (t : Int) : B 3000 (look (sums (ps.take i)) t) := by
  obtain ⟨D, M, T, g, hD, h1, h2⟩ := h
  rw [look_sums]
  refine (ND.wt hD t (ps := ps.take i) (M := M) fun p hp => g.nd p (List.mem_of_mem_take hp)).B hD (lt_1000 h1) (lt_1006 h2 ?_)
  rw [List.length_take]
  have := g.len
  omega
theorem Gq.look' {ps : Rw} (h : Gq ps) (t : Int) : B 3000 (Q7.look (sums ps) t) := by
  have := h.look ps.length t
  rwa [List.take_length] at this
theorem Gq.psum {ps : Rw} (h : Gq ps) (i : Nat) : B 3000 ((ps.map (·.2)).take i).sum := by
  obtain ⟨D, M, T, g, hD, h1, h2⟩ := h
  refine (ND.sum hD (qs := (ps.map (·.2)).take i) (M := M) fun q hq => ?_).B hD (lt_1000 h1) (lt_1006 h2 ?_)
  · obtain ⟨p, hp, rfl⟩ := List.mem_map.mp (List.mem_of_mem_take hq)
    exact g.nd p hp
  · rw [List.length_take, List.length_map]
    have := g.len
    omega
end Q7
set_option maxRecDepth 100000
set_option maxHeartbeats 4000000
namespace Q7
open PySem PySem.Spec PyProof.Rows L2
theorem tyT {K : PySem.W.Frag} {H : Hp} {p : Addr} {xs : List V} (h : SqT K H p xs) : TyX K H (.ref p) (.type "tuple") := by
  rcases h with (h | ⟨o, h⟩) | ⟨o, us, n, h, hc, _⟩
  · exact .base (.tup h)
  · exact .fTuple h
  · exact .kTuple h hc
theorem tyL {K : PySem.W.Frag} {H : Hp} {p : Addr} {xs : List V} (h : SqL K H p xs) : TyX K H (.ref p) (.type "list") := by
  rcases h with (h | ⟨o, h⟩) | ⟨o, us, n, h, hc, _⟩
  · exact .base (.lst h)
  · exact .base (.frz h)
  · exact .kList h hc
/-- a dict comprehension over a list that stays -/
theorem dc_list {K : PySem.W.Frag} {a : Addr} {xs : List V} {g : TG} {tt : TT} {tk tv : TE} {vs : List Nat} {σ : L2.St} {H1 : Hp} {D : Addr} {Qd : Hp → Prop} (Pv : Nat → Hp → Prop) (h0 : Pv 0 (upd H1 D (.dK []))) (hl : ∀ i H, i ≤ xs.length → Pv i H → SqL K H a xs)
    (hs : ∀ i x H, xs[i]? = some x → Pv i H → g x (wipe σ vs) H fun σ2 H2 => wipe σ2 vs = wipe σ vs ∧ tt σ2 H2 fun b H3 =>
      if b = true then tk σ2 H3 fun y H4 => tv σ2 H4 fun z H5 => ∃ kvs k, y = kV k ∧ H5 D = some (.dK kvs) ∧ kvs.length < sizeLine ∧ Pv (i + 1) (upd H5 D (.dK (putK kvs k z))) else Pv (i + 1) H3) (hd : ∀ H, Pv xs.length H → Qd H) :
    ∃ W : Nat → Nat → Hp → Prop, (∃ m, W 0 m (upd H1 D (.dK []))) ∧ ∀ i m H, W i m H →
      ((Itl K a).stop i H ∧ Qd H) ∨ ((Itl K a).go i H ∧ ∃ Nx : Hp → Prop, (∀ H', Nx H' → ∃ m', m' < m ∧ W (i + 1) m' H') ∧ ∀ x H', (Itl K a).yld i H x H' → g x (wipe σ vs) H' fun σ2 H2 => wipe σ2 vs = wipe σ vs ∧ tt σ2 H2 fun b H3 =>
        if b = true then tk σ2 H3 fun y H4 => tv σ2 H4 fun z H5 => ∃ kvs k, y = kV k ∧ H5 D = some (.dK kvs) ∧ kvs.length < sizeLine ∧ Nx (upd H5 D (.dK (putK kvs k z))) else Nx H3) := by
  refine ⟨fun i m H => m = xs.length - i ∧ i ≤ xs.length ∧ Pv i H, ⟨xs.length, by simp, Nat.zero_le _, h0⟩, ?_⟩
  rintro i m H ⟨rfl, hi, p⟩
  have q := hl i H hi p
  by_cases hlt : i < xs.length
  · refine .inr ⟨⟨xs, xs[i], q, by simp [hlt]⟩, Pv (i + 1), fun H' p' => ⟨xs.length - (i + 1), by omega, rfl, hlt, p'⟩, fun x H' y => ?_⟩
    obtain ⟨e, y⟩ := y
    subst e
    exact hs i x _ (y xs q) p
  · have e : i = xs.length := by omega
    subst e
    exact .inl ⟨⟨xs, q, Nat.le_refl _⟩, hd H p⟩
/-! ### dicts of fractions -/
def KvF (K : PySem.W.Frag) (H : Hp) : List (Key × V) → Rw → Prop := Paired fun kv p => kv.1 = Sum.inl p.1 ∧ FrV K H kv.2 p.2
section
variable {K : PySem.W.Frag} {H H' : Hp}
theorem kvF_tk : ∀ {ks : List (Key × V)} {m : Rw}, KvF K H ks m → TK H H' → KvF K H' ks m
  | _, _, .nil, _ => .nil
  | _, _, .cons h r, t => .cons ⟨h.1, frV_tk h.2 t⟩ (kvF_tk r t)
theorem kvF_get (t : Int) : ∀ {ks : List (Key × V)} {m : Rw}, KvF K H ks m → (valV ks (Sum.inl t) = none ∧ t ∉ m.map (·.1) ∧ look m t = 0) ∨ ∃ v, valV ks (Sum.inl t) = some v ∧ t ∈ m.map (·.1) ∧ FrV K H v (look m t)
  | _, _, .nil => .inl ⟨rfl, by simp, rfl⟩
  | _, _, .cons (a := kv) (b := (u, x)) (l₁ := ks) (l₂ := m) h r => by
    by_cases e : u = t
    · subst e
      exact .inr ⟨kv.2, valV_pos h.1, by simp, by unfold look; rw [if_pos rfl]; exact h.2⟩
    · have e2 : ¬ kv.1 = Sum.inl t := fun q => e (by rw [h.1] at q; exact Sum.inl.inj q)
      unfold look
      rw [valV_neg e2, if_neg e]
      rcases kvF_get t r with ⟨a, b, c⟩ | ⟨v, a, b, c⟩
      · exact .inl ⟨a, by simp only [List.map_cons, List.mem_cons]; rintro (q | q); exact e q.symm; exact b q, c⟩
      · exact .inr ⟨v, a, List.mem_cons_of_mem _ b, c⟩
theorem putK_eq {kv : Key × V} {r : List (Key × V)} {k : Key} {v : V} (e : kv.1 = k) (n : valV r k = none) : putK (kv :: r) k v = (kv.1, v) :: r := by
  unfold putK
  rw [if_pos (by rw [List.any_cons, decide_eq_true e]; rfl), List.map_cons, if_pos e]
  congr 1
  have : ∀ q ∈ r, (if q.1 = k then (q.1, v) else q) = q := fun q hq => by
    have h1 : (r.any fun kv => decide (kv.1 = k)) = false := by rw [valV_any, n]; rfl
    rw [if_neg fun e => by
      have := List.any_eq_false.mp h1 q hq
      exact this (decide_eq_true e)]
  exact (List.map_congr_left this).trans (List.map_id r)
theorem putK_ne {kv : Key × V} {r : List (Key × V)} {k : Key} {v : V} (e : ¬ kv.1 = k) : putK (kv :: r) k v = kv :: putK r k v := by
  unfold putK
  rw [List.any_cons, decide_eq_false e, Bool.false_or]
  by_cases h : (r.any fun kv => decide (kv.1 = k)) = true
  · rw [if_pos h, if_pos h, List.map_cons, if_neg e]
  · rw [if_neg h, if_neg h]
    rfl
theorem kvF_put {t : Int} {v : V} {q : Rat} : ∀ {ks : List (Key × V)} {m : Rw}, KvF K H ks m → (m.map (·.1)).Nodup → FrV K H v (look m t + q) → KvF K H (putK ks (Sum.inl t) v) (putS m t q)
  | _, _, .nil, _, f => .cons ⟨rfl, f⟩ .nil
  | _, _, .cons (a := kv) (b := (u, x)) (l₁ := ks) (l₂ := m) h r, nd, f => by
    have h1 := List.nodup_cons.mp nd
    unfold look at f
    unfold putS
    by_cases e : u = t
    · subst e
      rw [if_pos rfl] at f
      rw [if_pos rfl]
      rcases kvF_get u r with ⟨a, b, c⟩ | ⟨w, a, b, c⟩
      · rw [putK_eq h.1 a]
        exact .cons ⟨h.1, f⟩ r
      · exact absurd b h1.1
    · have e2 : ¬ kv.1 = Sum.inl t := fun q => e (by rw [h.1] at q; exact Sum.inl.inj q)
      rw [if_neg e] at f
      rw [if_neg e, putK_ne e2]
      exact .cons h (kvF_put r h1.2 f)
theorem kvF_keys : ∀ {ks : List (Key × V)} {m : Rw}, KvF K H ks m → ks.map (·.1) = (m.map (·.1)).map Sum.inl
  | _, _, .nil => rfl
  | _, _, .cons h r => by
    simp only [List.map_cons]
    rw [h.1, kvF_keys r]
theorem kvF_items {ts : List Addr} {ks : List (Key × V)} {m : Rw} (h : KvF K H ks m) (s : TK H H') (p : Paired (fun (t : Addr) (q : Key × V) => H' t = some (.tup [kV q.1, q.2])) ts ks) : PrsV K H' (ts.map V.ref) m := by
  induction p generalizing m with
  | nil => cases h; exact .nil
  | cons r _ ih =>
    cases h with
    | @cons _ q _ m h1 h2 =>
      obtain ⟨e, f⟩ := h1
      refine .cons ⟨_, _, rfl, sqT_of ?_, frV_tk f s⟩ (ih h2)
      rw [r, e]
      rfl
/-- an own row at v: its shares are a -/
def RowAt (K : PySem.W.Frag) (C : Addr) (H : Hp) (v : V) (a : Rw) : Prop := ∃ x dx d ks, v = .ref x ∧ H x = some (.ins C dx [("_shares", .ref d)]) ∧ H d = some (.dK ks) ∧ KvF K H ks a ∧ Nf a
theorem rowAt_same {C : Addr} {v : V} {a : Rw} (h : RowAt K C H v a) (s : Same H H') : RowAt K C H' v a := by
  obtain ⟨x, dx, d, ks, e, h1, h2, h3, n⟩ := h
  exact ⟨x, dx, d, ks, e, s _ _ h1, s _ _ h2, kvF_tk h3 (same_tk s), n⟩
theorem pick_snoc {m : Rw} {ys : List Int} {i : Nat} {t : Int} (h : ys[i]? = some t) : pick m (ys.take (i + 1)) = if look m t = 0 then pick m (ys.take i) else pick m (ys.take i) ++ [(t, look m t)] := by
  unfold pick
  rw [List.take_succ, h, List.map_append, List.filter_append]
  by_cases e : look m t = 0
  · rw [if_pos e]
    simp [e]
  · rw [if_neg e]
    simp [e]
theorem kvF_snoc {ks : List (Key × V)} {m : Rw} {t : Int} {v : V} {q : Rat} (h : KvF K H ks m) (f : FrV K H v q) : KvF K H (ks ++ [(Sum.inl t, v)]) (m ++ [(t, q)]) := pApp h (.cons ⟨rfl, f⟩ .nil)
theorem sums_take {ps : Rw} {i : Nat} {p : Int × Rat} (h : ps[i]? = some p) : sums (ps.take (i + 1)) = putS (sums (ps.take i)) p.1 p.2 := by
  rw [List.take_succ, h]
  exact sums_snoc _ p
theorem pick_key {m : Rw} {ys : List Int} (nd : ys.Nodup) {i : Nat} {t : Int} (h : ys[i]? = some t) : t ∉ (pick m (ys.take i)).map (·.1) := by
  intro q
  obtain ⟨p, hp, e⟩ := List.mem_map.mp q
  unfold pick at hp
  obtain ⟨k, hk, rfl⟩ := List.mem_map.mp (List.mem_filter.mp hp).1
  simp only at e
  subst e
  obtain ⟨j, hj, e2⟩ := List.getElem_of_mem hk
  rw [List.getElem_take] at e2
  rw [List.length_take] at hj
  have e3 : ys[j]? = ys[i]? := by rw [h, List.getElem?_eq_getElem (by omega), e2]
  have := (List.getElem?_inj (by omega) nd).mp e3
  omega
theorem frV_same {v : V} {q : Rat} (h : FrV K H v q) (s : Same H H') : FrV K H' v q := frV_tk h (same_tk s)
end
end Q7
set_option maxRecDepth 100000
set_option maxHeartbeats 4000000
namespace Q7
open PySem PySem.Spec PyProof.Rows L2
/-- the turns over a list that stays, from any heap, with any body -/
theorem turn_list {K : PySem.W.Frag} {a : Addr} {xs : List V} {g : TG} {tt : TT} (Bd : L2.St → Hp → (Hp → Prop) → Prop) {vs : List Nat} {σ : L2.St} {Hs : Hp} {Qd : Hp → Prop} (Pv : Nat → Hp → Prop) (h0 : Pv 0 Hs) (hl : ∀ i H, i ≤ xs.length → Pv i H → SqL K H a xs)
    (hs : ∀ i x H, xs[i]? = some x → Pv i H → g x (wipe σ vs) H fun σ2 H2 => wipe σ2 vs = wipe σ vs ∧ tt σ2 H2 fun b H3 =>
      if b = true then Bd σ2 H3 (Pv (i + 1)) else Pv (i + 1) H3) (hd : ∀ H, Pv xs.length H → Qd H) :
    ∃ W : Nat → Nat → Hp → Prop, (∃ m, W 0 m Hs) ∧ ∀ i m H, W i m H →
      ((Itl K a).stop i H ∧ Qd H) ∨ ((Itl K a).go i H ∧ ∃ Nx : Hp → Prop, (∀ H', Nx H' → ∃ m', m' < m ∧ W (i + 1) m' H') ∧ ∀ x H', (Itl K a).yld i H x H' → g x (wipe σ vs) H' fun σ2 H2 => wipe σ2 vs = wipe σ vs ∧ tt σ2 H2 fun b H3 =>
        if b = true then Bd σ2 H3 Nx else Nx H3) := by
  refine ⟨fun i m H => m = xs.length - i ∧ i ≤ xs.length ∧ Pv i H, ⟨xs.length, by simp, Nat.zero_le _, h0⟩, ?_⟩
  rintro i m H ⟨rfl, hi, p⟩
  have q := hl i H hi p
  by_cases hlt : i < xs.length
  · refine .inr ⟨⟨xs, xs[i], q, by simp [hlt]⟩, Pv (i + 1), fun H' p' => ⟨xs.length - (i + 1), by omega, rfl, hlt, p'⟩, fun x H' y => ?_⟩
    obtain ⟨e, y⟩ := y
    subst e
    exact hs i x _ (y xs q) p
  · have e : i = xs.length := by omega
    subst e
    exact .inl ⟨⟨xs, q, Nat.le_refl _⟩, hd H p⟩
/-! ### equality of dicts of fractions -/
def enc (a : Rw) : List (Key × PyData) := a.map fun p => (Sum.inl p.1, fr p.2)
theorem kvF_kvd {K : PySem.W.Frag} {H : Hp} : ∀ {ks : List (Key × V)} {m : Rw}, KvF K H ks m → KvD K H ks (enc m)
  | _, _, .nil => .nil
  | _, _, .cons h r => .cons ⟨h.1, frV_dp h.2, sh_fr _⟩ (kvF_kvd r)
theorem find_enc (t : Int) : ∀ {b : Rw}, (∃ q, findD (enc b) (Sum.inl t) = some (fr q) ∧ (t, q) ∈ b) ∨ (findD (enc b) (Sum.inl t) = none ∧ t ∉ b.map (·.1))
  | [] => .inr ⟨rfl, by simp⟩
  | (u, x) :: b => by
    by_cases e : u = t
    · subst e
      refine .inl ⟨x, ?_, List.mem_cons_self⟩
      unfold findD enc
      rw [List.map_cons, List.find?_cons_of_pos (by simp)]
      rfl
    · have e2 : findD (enc ((u, x) :: b)) (Sum.inl t) = findD (enc b) (Sum.inl t) := by
        unfold findD enc
        rw [List.map_cons, List.find?_cons_of_neg (by simp; exact e)]
      rw [e2]
      rcases find_enc t (b := b) with ⟨q, h1, h2⟩ | ⟨h1, h2⟩
      · exact .inl ⟨q, h1, List.mem_cons_of_mem _ h2⟩
      · exact .inr ⟨h1, by simp only [List.map_cons, List.mem_cons]; rintro (q | q); exact e q.symm; exact h2 q⟩
theorem sub_len : ∀ {b a : Rw}, (a.Pairwise fun x y => x.1 < y.1) → (b.Pairwise fun x y => x.1 < y.1) → (∀ p ∈ a, p ∈ b) → a.length ≤ b.length ∧ (a.length = b.length → a = b)
  | [], a, _, _, s => by
    cases a with
    | nil => exact ⟨Nat.le_refl _, fun _ => rfl⟩
    | cons p r => exact absurd (s p List.mem_cons_self) (by simp)
  | q :: b, [], _, _, _ => ⟨by simp, fun h => by simp at h⟩
  | q :: b, p :: a, ha, hb, s => by
    have a2 := List.pairwise_cons.mp ha
    have b2 := List.pairwise_cons.mp hb
    rcases List.mem_cons.mp (s p List.mem_cons_self) with e | h
    · subst e
      have ih := sub_len (b := b) (a := a) a2.2 b2.2 fun x hx => by
        rcases List.mem_cons.mp (s x (List.mem_cons_of_mem _ hx)) with e | h
        · subst e; have := a2.1 x hx; omega
        · exact h
      refine ⟨by simp only [List.length_cons]; omega, fun h => ?_⟩
      rw [ih.2 (by simp only [List.length_cons] at h; omega)]
    · have ih := sub_len (b := b) (a := p :: a) ha b2.2 fun x hx => by
        rcases List.mem_cons.mp hx with rfl | hx2
        · exact h
        · rcases List.mem_cons.mp (s x hx) with e | h2
          · subst e; have h3 := a2.1 x hx2; have h4 := b2.1 p h; omega
          · exact h2
      refine ⟨by simp only [List.length_cons] at *; omega, fun h => ?_⟩
      simp only [List.length_cons] at *
      omega
theorem nd_of_asc {b : Rw} (h : b.Pairwise fun x y => x.1 < y.1) {t : Int} {x y : Rat} (h1 : (t, x) ∈ b) (h2 : (t, y) ∈ b) : x = y := by
  induction b with
  | nil => simp at h1
  | cons p r ih =>
    have h3 := List.pairwise_cons.mp h
    rcases List.mem_cons.mp h1 with e | m1
    · rcases List.mem_cons.mp h2 with e2 | m2
      · rw [← e] at e2; exact (Prod.mk.inj e2).2.symm
      · have := h3.1 _ m2; rw [← e] at this; simp at this
    · rcases List.mem_cons.mp h2 with e2 | m2
      · have := h3.1 _ m1; rw [← e2] at this; simp at this
      · exact ih h3.2 m1 m2
theorem eqKv_enc {a b : Rw} (na : Nf a) (nb : Nf b) : eqKv (enc a) (enc b) = decide (a = b) := by
  unfold eqKv
  rw [show (enc a).length = a.length from List.length_map .., show (enc b).length = b.length from List.length_map ..]
  by_cases hl : a.length = b.length
  · rw [show (a.length == b.length) = true by simpa using hl, Bool.true_and]
    by_cases h : ∀ p ∈ a, p ∈ b
    · have e := (sub_len na.asc nb.asc h).2 hl
      subst e
      rw [decide_eq_true rfl, List.all_eq_true]
      intro q hq
      obtain ⟨p, hp, rfl⟩ := List.mem_map.mp hq
      simp only
      rcases find_enc p.1 (b := a) with ⟨x, h1, h2⟩ | ⟨_, h2⟩
      · rw [h1]
        simp only
        rw [nd_of_asc na.asc h2 hp, eqv_fr, decide_eq_true rfl]
      · exact absurd (List.mem_map.mpr ⟨p, hp, rfl⟩) h2
    · rw [decide_eq_false fun e => h (by subst e; exact fun p hp => hp)]
      rw [List.all_eq_false]
      have ⟨p, hp⟩ := Classical.not_forall.mp h
      have ⟨hp1, hp2⟩ := Classical.not_imp.mp hp
      refine ⟨_, List.mem_map.mpr ⟨p, hp1, rfl⟩, ?_⟩
      simp only
      rcases find_enc p.1 (b := b) with ⟨x, h1, h2⟩ | ⟨h1, _⟩
      · rw [h1]
        simp only
        rw [eqv_fr, decide_eq_false]
        · simp
        · intro e; exact hp2 (by rw [← e] at h2; exact h2)
      · rw [h1]
        simp
  · rw [show (a.length == b.length) = false by simpa using hl, Bool.false_and, decide_eq_false fun e => hl (by rw [e])]
end Q7
set_option maxRecDepth 100000
set_option maxHeartbeats 4000000
namespace Q7
open PySem PySem.Spec PyProof.Rows L2
/-! ### defs that may ask for a repr: entered where no repr runs -/
section
variable {P : Program} {w : World} {K : PySem.W.Frag} {mg : Str → Option Value} {base : Heap} {fd : FuncData} {f : Addr} {sp : Sp}
structure FnG (P : Program) (w : World) (K : PySem.W.Frag) (mg : Str → Option Value) (base : Heap) (lev : Nat) (f : Addr) (fd : FuncData) (params : List Str) (sp : Sp) : Prop where
  many : ∀ as H Q E, sp as H Q E → as.length = params.length
  goes : ∀ (Ar : Around) (envs : List Env) (st : Shared) (H : Hp) (got : Args) (raw : List Value) (as : List V) (Q : VK) (E : XK), Ar.guards = some [] → Room lev Ar → sp as H Q E →
    Vals as raw → BindsTo st fd got (params.zip raw) → Env0 P w K mg base Ar envs st H → codeAny (model P w) Ar (.call (.ref f) got) (CR CX0 envs P w H st Q E) st
theorem FnG.mono {j k : Nat} {ps : List Str} (F : FnG P w K mg base j f fd ps sp) (le : j ≤ k) : FnG P w K mg base k f fd ps sp :=
  ⟨F.many, fun Ar envs st H got raw as Q E g room => F.goes Ar envs st H got raw as Q E g (room.mono le)⟩
/-- a def, from its body, where no repr runs -/
theorem okG {k : Nat} {x qual : Str} {params : Arguments} {body : List Stmt} {scope : Scope} {dvs : List V} {kws : List (Str × V)} {N ps : List Str} (F : FunD K x qual params body scope dvs kws f fd) (S : FnScope N ps scope)
    (many : ∀ as H Q E, sp as H Q E → as.length = ps.length)
    (inner : ∀ (cdv : Value) (Ar : Around) (envs : List Env) (st : Shared) (H : Hp) (as : List V) (Q : VK) (E : XK), Ar.guards = some [] → Room k (Ar.deeper (envOfC qual scope st.heap.objs.size f cdv)) → sp as H Q E →
      ∃ rd, PSs (cxOf CX0 P w K mg base N qual scope f cdv Ar envs st H E) body rd ∧ rd { nx := fun _ H1 => Q .non H1, rt := Q } (start N as) H) : FnG P w K mg base (k + 1) f fd ps sp := by
  obtain ⟨_, _, _, _, _, _, _, cdv, _, _, rfl, look, code, _, _⟩ := F.ex
  refine ⟨many, fun Ar envs st H got raw as Q E g room prom vals bnd ev => ?_⟩
  have held : ∀ b o, base.get? b = some o → st.heap.get? b = some o := fun b o q => (ev.bs b o q).1
  have KI := ev.mod.kin.keeps held
  have noLim := ev.mod.nolimit.keeps held
  refine codeAny_call_function room.depth (KI _ _ look) rfl S.co S.gen rfl (PySem.W.codeRec_of KI code) (bnd _ _ _ _ ?_)
  refine wpAny_newFunctionEnv_cells S.kind (fun ⟨nm, va⟩ mem => ?_) fun en eq st1 lay => ?_
  · cases S.par nm (List.of_mem_zip mem).1 with
    | inl lo => exact .inl lo
    | inr ce => exact .inr ⟨ce, PySem.W.cellsFrom_some _ _ _ (.inl ce)⟩
  subst eq
  refine ⟨noLim.keeps lay.toInCall.keep, codeAny_func ?_⟩
  obtain ⟨rd, hrd, hq⟩ := inner cdv Ar envs st H as Q E g (room.deeper _) prom
  refine wpAny_mono (hrd.run [] st1 (start N as) H _ (inv_start S room.hd ev (many _ _ _ _ prom) vals lay) hq) (fun fl st2 res => ?_) fun _ _ q => q
  cases fl with
  | ret u =>
    obtain ⟨va, _, H1, J, rel, q⟩ := res
    exact ⟨va, H1, J.os, J.bare, J.base, J.hok, rel, q⟩
  | next =>
    obtain ⟨_, H1, J, q⟩ := res
    exact ⟨V.non, H1, J.os, J.bare, J.base, J.hok, rfl, q⟩
  | brk => exact res.elim fun _ z => z.elim fun _ z => z.2.elim
  | cont => exact res.elim fun _ z => z.elim fun _ z => z.2.elim
end
section
variable {X : Cx} {k : Nat} {f : Addr} {fd : FuncData} {ps : List Str} {sp : Sp} {x : Str} {e : Expr} {es : List Expr} {t : TA} {p pos : Pos}
theorem run_fnG {pins : List (Addr × Obj)} {σ : L2.St} {H : Hp} {s : Shared} {Q : VK} {raw : List Value} {as : List V} (F : FnG X.prog X.w X.K X.mg X.base k f fd ps sp) (room : Room k X.A) (g : X.A.guards = some []) (bnd : Binds X.K fd ps [])
    (I : Inv X pins σ H s) (vals : Vals as raw) (prom : sp as H Q E0) : wpAny (model X.prog X.w) X.A (call (.ref f) raw) (EP X pins σ Q) X.xe s := by
  have ln : raw.length = ps.length := by rw [← vals.length]; exact F.many _ _ _ _ prom
  have bn : BindsTo s fd ⟨raw, []⟩ (ps.zip raw) := by
    have := bnd s raw I.kIn (by simpa using ln)
    simpa using this
  refine wpAny_call (codeAny_mono (F.goes X.A X.stack s H ⟨raw, []⟩ raw as Q E0 g room prom vals bn I.env0) fun res s' hq => ?_)
  match res, hq with
  | .error _, q => exact q.elim
  | .ok (.ret _), q => exact I.after q
  | .ok .next, q => exact False.elim q
  | .ok .brk, q => exact False.elim q
  | .ok .cont, q => exact False.elim q
theorem pe_callG (F : FnG X.prog X.w X.K X.mg X.base k f fd ps sp) (room : Room k X.A) (g : X.A.guards = some []) (gl : Gl X x) (here : X.mg x = some (.ref f)) (kp : PySem.W.keepIn X.K (.ref f) = true) (bnd : Binds X.K fd ps []) (args : PA X (e :: es) t)
    (nd : (x == ("__debug__" : Str)) = false := by decide) (stars : starEach (e :: es) X.env = (false, eval e X.env) :: starEach es X.env := by rfl) (plain : (backTo pos (starEach es X.env)).any (·.1) = false := by rfl) :
    PE X (.Call (.Name x p) (e :: es) [] pos) (tCall sp [] E0 t) := by
  constructor
  intro pins s σ H Q I h
  refine wpAny_Call_Name_kw (ld_glob I gl here (PySem.W.callWith_K (h₀ := X.base) I.ok.mod.kin kp (thn (args.run pos pins s σ H _ I h) fun us s1 z => ?_) stars plain) nd)
  obtain ⟨vs, H1, I1, r, q⟩ := z
  exact ⟨I1.kIn, run_fnG F room g bnd I1 r (by rwa [List.append_nil] at q)⟩
end
end Q7
set_option maxRecDepth 100000
set_option maxHeartbeats 4000000
namespace Q7
open PySem PySem.Spec PyProof.Rows L2
/-! ### the law's own call, by such a promise -/
abbrev obS (raw : List Value) : Obj := { cls := .type "list", data := .seq raw.toArray }
theorem enterG {P : Program} {w : World} {K : PySem.W.Frag} {mg mb : Str → Option Value} {lev : Nat} {fa a : Addr} {fd : FuncData} {x : Str} {sp : Sp} {st : Shared} {raw : List Value} {ns : List Int}
    (KI : K.In st.heap) (glob : st.heap.Ns mainGlobals mg) (bl : st.heap.Ns builtinsNs mb) (boot : ∀ n : Str, n ≠ "__name__" → mb n = bootBuiltins n) (free : st.heap.NoLimit) (gens : st.gens = #[])
    (here : st.heap.get? a = some (obS raw)) (nums : IntsAre raw ns) (short : ns.length ≤ sizeLine) (room : Room lev callerA) (F : ∀ bs : Heap, K.In bs → bs.Ns mainGlobals mg → FnG P w K mg bs lev fa fd [x] sp)
    (bnd : ∀ (s : Shared) (u : Value), BindsTo s fd ⟨[u], []⟩ [(x, u)]) (prom : ∀ H : Hp, SqL K H a (ns.map V.int) → sp [.ref a] H (fun v _ => v = .bl true) fun _ _ _ => False) :
    codeAny (model P w) callerA (.call (.ref fa) ⟨[.ref a], []⟩) (fun r s' => r = .ok (.ret (.bool true)) ∧ OldK st.heap s'.heap ∧ s'.os = st.os ∧ AllBare s'.gens) st := by
  have vals := vals_ints nums
  have hlen : (ns.map V.int).length ≤ sizeLine := by rwa [List.length_map]
  have pickH : ∃ H : Hp, (∀ c u, H c = some u → c = a ∧ u = .frz (obS raw) (.lst (ns.map V.int)) ∧ K.lookup a = none) ∧ SqL K H a (ns.map V.int) := by
    by_cases own : K.lookup a = none
    · refine ⟨fun c => if c = a then some (.frz (obS raw) (.lst (ns.map V.int))) else none, fun c u q => ?_, .inl (.inr ⟨obS raw, if_pos rfl⟩)⟩
      by_cases ca : c = a
      · exact ⟨ca, Option.some.inj (q.symm.trans (if_pos ca)), own⟩
      · exact absurd (q.symm.trans (if_neg ca)) (by simp)
    · refine ⟨fun _ => none, fun c u q => by simp at q, ?_⟩
      obtain ⟨ob, hob⟩ := Option.ne_none_iff_exists'.mp own
      have : ob = obS raw := Option.some.inj ((KI a ob hob).symm.trans here)
      subst this
      exact .inr ⟨_, raw.toArray, _, hob, rfl, rfl, rfl, by rw [List.size_toArray, nums.length]; exact short, by simpa using vals⟩
  obtain ⟨H, only, seq⟩ := pickH
  have none_of : ∀ {c : Addr} {o : Obj}, st.heap.get? c = some o → (∀ u, o.data ≠ .seq raw.toArray u) → H c = none := fun {c o} q d => by
    cases hc : H c with
    | none => rfl
    | some u =>
      obtain ⟨rfl, _⟩ := only c u hc
      rw [here] at q
      cases q
      exact absurd rfl (d _)
  have nsOf : ∀ {c : Addr} {m : Str → Option Value}, st.heap.Ns c m → (hidT st.heap H).Ns c m := fun {c m} q => by
    obtain ⟨o, es, ep, q1, q2, q3⟩ := q
    exact ⟨o, es, ep, hidT_get q1 (none_of q1 fun u z => by rw [q2] at z; cases z), q2, q3⟩
  have KB : K.In (hidT st.heap H) := fun c o q => hidT_get (KI c o q) (by
    cases hc : H c with
    | none => rfl
    | some u =>
      obtain ⟨rfl, _, z⟩ := only c u hc
      rw [z] at q
      cases q)
  have hok : HOk P w H st.heap := fun c u q => by
    obtain ⟨rfl, rfl, _⟩ := only c u q
    exact ⟨here, hlen, raw, _, vals, here⟩
  obtain ⟨mc, fr1, fr2⟩ := free
  have ev : Env0 P w K mg (hidT st.heap H) callerA [] st H := {
    frames := rfl
    mod := ⟨KB, nsOf glob, ⟨mb, nsOf bl, boot⟩, mc, nsOf fr1, fr2⟩
    bs := fun c o q => of_hidT q
    bsz := Nat.le_of_eq (hidT_size st.heap H)
    funs := trivial
    frf := fun c q => nomatch q
    hok := hok
    bare := .of_eq gens }
  refine codeAny_mono ((F _ KB (nsOf glob)).goes callerA [] st H ⟨[.ref a], []⟩ [.ref a] [.ref a] _ _ rfl room (prom H seq) (.cons rfl .nil) (bnd st (.ref a)) ev) fun res s' q => ?_
  match res, q with
  | .error _, q => exact q.elim
  | .ok .next, q => exact False.elim q
  | .ok .brk, q => exact False.elim q
  | .ok .cont, q => exact False.elim q
  | .ok (.ret u), q =>
    obtain ⟨v, H1, os, bare, un, hok1, rel, rfl⟩ := q
    cases rel
    refine ⟨rfl, OldK.of_keep fun c o look => ?_, os, bare⟩
    cases hc : H c with
    | none => exact un.keep c o look hc (fun z => nomatch z) (by simp)
    | some u =>
      obtain ⟨rfl, rfl, _⟩ := only c u hc
      obtain ⟨l1, _⟩ := hok1 c _ (un.frzs c _ _ hc)
      rw [here] at look
      cases look
      exact l1
theorem walk_ofG {l : PySem.W.OpenLaw} {most lev : Nat} {q : Program} {loose : List Str} {XP : (Str → Option Value) → Heap → Prop} {YP : World → Heap → Prop} {d : DefRec} {x : Str} (hm : l.most = some most) (line : most ≤ sizeLine) (nodef : d.params.defaults = []) (room : Room lev callerA)
    (F : ∀ (w : World) (mg : Str → Option Value) (fa : Addr) (h : Heap), YP w h → h.Ns mainGlobals mg → mg d.name = some (.ref fa) → ∃ (K : PySem.W.Frag) (fd : FuncData) (sp : Sp), K.In h ∧ (∀ (s : Shared) (u : Value), BindsTo s fd ⟨[u], []⟩ [(x, u)]) ∧
      (∀ (H : Hp) (a : Addr) (ns : List Int), ns.length ≤ most → SqL K H a (ns.map V.int) → sp [.ref a] H (fun v _ => v = .bl true) fun _ _ _ => False) ∧ ∀ bs : Heap, K.In bs → bs.Ns mainGlobals mg → FnG l.prog w K mg bs lev fa fd [x] sp) :
    PySem.W.WalkO q loose XP YP l.row.toRowW d [] (fun f vs => PySem.call f vs) := by
  refine Att.attach_call hm nodef fun w _ st mg mb fa _ _ _ _ a raw ns gr Y _ _ _ named here nums few gens => ?_
  obtain ⟨K, fd, sp, KI, bnd, prom, FG⟩ := F w mg fa _ Y gr.T.g named
  exact enterG KI gr.T.g gr.T.b gr.T.builtins gr.T.nolimit gens here nums (Nat.le_trans few line) room FG bnd fun H seq => prom H a ns few seq
/-- an empty tuple of the written part -/
def tNil0 (ad : PySem.W.Frag → Addr) : Tst := fun K => match K.lookup (ad K) with
  | some ⟨.type c, _, .seq its _, _⟩ => decide (c = "tuple") && its.toList.isEmpty
  | _ => false
theorem tNil0_ok {ad : PySem.W.Frag → Addr} {K : PySem.W.Frag} (c : tNil0 ad K = true) (H : Hp) : SqT K H (ad K) [] := by
  unfold tNil0 at c
  cases e : K.lookup (ad K) with
  | none => rw [e] at c; cases c
  | some o =>
    rw [e] at c
    obtain ⟨oc, od, dt, sl⟩ := o
    cases oc with
    | type t =>
      cases dt with
      | seq its n =>
        obtain ⟨h1, h2⟩ := He.ba c
        have e1 := of_decide_eq_true h1
        subst e1
        obtain ⟨l⟩ := its
        cases l with
        | nil => exact .inr ⟨_, _, _, e, rfl, rfl, by simp, .nil⟩
        | cons _ _ => cases h2
      | _ => cases c
    | _ => cases dt <;> cases c
/-! ### repr of data -/
def rRepr (K : PySem.W.Frag) : List V → Hp → VK → Prop := fun as H Q => ∃ v d, as = [v] ∧ Dp K H v d ∧ d.showable = true ∧ d.hasDict = false ∧ d.depth ≤ 40 ∧ d.shown.length + 64 ≤ sizeLine ∧ (∃ p, v = .ref p) ∧ Q (.str d.shown) H
theorem call_reprG {X : Cx} (g : X.A.guards = some []) (hu : X.A.units + 70 < cLine) : CallR X (.builtin "repr") (rRepr X.K) := by
  intro pins s σ H as us Q I r h
  obtain ⟨v, d, rfl, dp, sh, nd, dep, sz, ⟨p, rfl⟩, q⟩ := h
  obtain ⟨u, rfl, rel⟩ := vals1 r
  cases rel
  obtain ⟨bs, rd⟩ := Dp.reads I d _ _ dp rfl
  refine repr_of_reads' rd sh (fun z => by rw [nd] at z; cases z) g (by omega) (fun _ _ z => z) (fun h' u tk kp => ?_) (by omega)
  exact ⟨.str _, H, I.kept (t' := tk) kp, ⟨_, rfl⟩, q⟩
end Q7
set_option maxHeartbeats 2000000
namespace Q7
def mv (n : Int) (a : Rw) : Rw := a.map fun p => (p.1 + n, p.2)
def upTo (n : Int) (a : Rw) : Rw := a.filter fun p => decide (p.1 ≤ n)
def eqAt (n : Int) (a : Rw) : Rw := a.filter fun p => decide (p.1 = n)
theorem wt_mv (f : Int → Rat) (n : Int) : ∀ a : Rw, wt f (mv n a) = wt (fun t => f (t + n)) a
  | [] => rfl
  | (t, q) :: r => by
    show q * f (t + n) + wt f (mv n r) = _
    rw [wt_mv f n r]
    rfl
theorem nf_mv {n : Int} {a : Rw} (h : Nf a) : Nf (mv n a) := by
  refine ⟨?_, ?_⟩
  · unfold mv
    rw [List.pairwise_map]
    exact h.asc.imp fun h => by show _ + n < _ + n; omega
  · intro p hp
    obtain ⟨x, hx, rfl⟩ := List.mem_map.mp hp
    exact h.nz x hx
theorem nf_sub {a b : Rw} (h : Nf b) (s : a.Sublist b) : Nf a := ⟨h.asc.sublist s, fun p hp => h.nz p (s.subset hp)⟩
theorem nf_upTo {n : Int} {a : Rw} (h : Nf a) : Nf (upTo n a) := nf_sub h List.filter_sublist
theorem one_mv (n : Int) (a : Rw) : norm (mv n a) = norm (prod a (norm [(n, 1)])) := norm_eq fun f => by
  rw [wt_mv, wt_prod]
  congr 1
  funext t
  rw [wt_norm]
  show _ = 1 * f (t + n) + 0
  rw [Rat.one_mul, Rat.add_zero]
theorem sum_at (n : Int) : ∀ a : Rw, ((eqAt n a).map (·.2)).sum = wt (at_ n) a
  | [] => rfl
  | (t, q) :: r => by
    have ih := sum_at n r
    unfold eqAt at *
    show _ = q * at_ n t + wt (at_ n) r
    unfold at_ at *
    by_cases e : t = n
    · rw [if_pos e, Rat.mul_one, List.filter_cons_of_pos (by simpa using e), List.map_cons, List.sum_cons, ih]
    · rw [if_neg e, Rat.mul_zero, Rat.zero_add, List.filter_cons_of_neg (by simpa using e), ih]
theorem look_nf {a : Rw} (h : Nf a) (t : Int) : look a t = wt (at_ t) a := look_wt (List.nodup_iff_pairwise_ne.mpr (by
  rw [List.pairwise_map]
  exact h.asc.imp fun h => by omega)) t
theorem look_at {a : Rw} (h : Nf a) (n : Int) : look a n = ((eqAt n a).map (·.2)).sum := by rw [look_nf h, sum_at]
theorem norm_rev (ps : Rw) : norm ps.reverse = norm ps := norm_eq fun f => wt_perm f (List.reverse_perm ps)
theorem norm_norm (ps : Rw) : norm (norm ps) = norm ps := norm_self (norm_nf ps)
/-- two ascending lists with the same members -/
theorem asc_eq : ∀ {l l' : List Int}, l.Pairwise (· < ·) → l'.Pairwise (· < ·) → (∀ x, x ∈ l ↔ x ∈ l') → l = l'
  | [], [], _, _, _ => rfl
  | [], y :: r, _, _, h => absurd ((h y).mpr List.mem_cons_self) (by simp)
  | x :: r, [], _, _, h => absurd ((h x).mp List.mem_cons_self) (by simp)
  | x :: r, y :: s, h1, h2, h => by
    have a1 := List.pairwise_cons.mp h1
    have a2 := List.pairwise_cons.mp h2
    have e : x = y := by
      rcases List.mem_cons.mp ((h x).mp List.mem_cons_self) with e | m
      · exact e
      · rcases List.mem_cons.mp ((h y).mpr List.mem_cons_self) with e | m2
        · exact e.symm
        · have := a1.1 y m2; have := a2.1 x m; omega
    subst e
    rw [asc_eq a1.2 a2.2 fun z => ⟨fun m => by
      rcases List.mem_cons.mp ((h z).mp (List.mem_cons_of_mem _ m)) with e | m2
      · subst e; have := a1.1 z m; omega
      · exact m2, fun m => by
      rcases List.mem_cons.mp ((h z).mpr (List.mem_cons_of_mem _ m)) with e | m2
      · subst e; have := a2.1 z m; omega
      · exact m2⟩]
/-- the ticks below n of a row within -/
def ticksIn (n : Nat) (a : Rw) : List Int := ((List.range n).map fun k => ((k : Nat) : Int)).filter fun t => decide (t ∈ a.map (·.1))
theorem ticks_all {n : Nat} {a : Rw} (h : Nf a) (hb : ∀ p ∈ a, 0 ≤ p.1 ∧ p.1 < n) : ticksIn n a = a.map (·.1) := by
  refine asc_eq ?_ (List.pairwise_map.mpr h.asc) fun x => ?_
  · refine List.Pairwise.filter _ ?_
    rw [List.pairwise_map]
    exact List.pairwise_lt_range.imp fun h => by omega
  · unfold ticksIn
    rw [List.mem_filter]
    constructor
    · intro ⟨_, h⟩; exact of_decide_eq_true h
    · intro hx
      refine ⟨?_, decide_eq_true hx⟩
      obtain ⟨p, hp, rfl⟩ := List.mem_map.mp hx
      have := hb p hp
      exact List.mem_map.mpr ⟨p.1.toNat, List.mem_range.mpr (by omega), by omega⟩
/-! ### the identities of rows -/
theorem add_ok (a b : Rw) : norm (norm a ++ norm b) = norm (a ++ b) := norm_eq fun f => by rw [wt_append, wt_append, wt_norm, wt_norm]
theorem mul_ok (a b : Rw) : norm (prod (norm a) (norm b)) = norm (prod a b) := norm_eq fun f => by
  rw [wt_prod, wt_prod, wt_norm]
  congr 1
  funext t
  rw [wt_norm]
theorem mul_comm' (a b : Rw) : norm (prod a b) = norm (prod b a) := norm_eq fun f => by
  rw [wt_prod, wt_prod, wt_swap]
  congr 1
  funext t
  congr 1
  funext u
  rw [Int.add_comm]
theorem add_comm' (a b : Rw) : norm (a ++ b) = norm (b ++ a) := norm_eq fun f => by rw [wt_append, wt_append, Rat.add_comm]
theorem mul_assoc' (a b c : Rw) : norm (prod (norm (prod a b)) c) = norm (prod a (norm (prod b c))) := norm_eq fun f => by
  rw [wt_prod, wt_norm, wt_prod, wt_prod]
  congr 1
  funext t
  rw [wt_norm, wt_prod]
  congr 1
  funext u
  congr 1
  funext v
  rw [Int.add_assoc]
theorem mul_add' (a b c : Rw) : norm (prod a (norm (b ++ c))) = norm (norm (prod a b) ++ norm (prod a c)) := norm_eq fun f => by
  rw [wt_append, wt_norm, wt_norm, wt_prod, wt_prod, wt_prod, ← wt_add]
  congr 1
  funext t
  rw [wt_norm, wt_append]
/-! ### sizes -/
theorem Gd.mv {D M T L : Nat} {a : Rw} (h : Gd D M T L a) {n : Int} {N : Nat} (h0 : 0 ≤ n) (h1 : n ≤ N) : Gd D M (T + N) L (mv n a) := by
  refine ⟨?_, ?_, ?_, ?_⟩
  · intro p hp; obtain ⟨x, hx, rfl⟩ := List.mem_map.mp hp; exact h.nd x hx
  · intro p hp; obtain ⟨x, hx, rfl⟩ := List.mem_map.mp hp; have := h.lo x hx; show 0 ≤ x.1 + n; omega
  · intro p hp; obtain ⟨x, hx, rfl⟩ := List.mem_map.mp hp; have := h.hi x hx; show x.1 + n ≤ _; omega
  · unfold Q7.mv; rw [List.length_map]; exact h.len
theorem ND.one : ND 1 1 1 := ⟨1, by rfl, by decide⟩
theorem Gd.single {n : Int} {N : Nat} (h0 : 0 ≤ n) (h1 : n ≤ N) : Gd 1 1 N 1 [(n, 1)] := by
  refine ⟨?_, ?_, ?_, by simp⟩
  · intro p hp; rw [List.mem_singleton] at hp; subst hp; exact ND.one
  · intro p hp; rw [List.mem_singleton] at hp; subst hp; exact h0
  · intro p hp; rw [List.mem_singleton] at hp; subst hp; exact h1
/-- as rows of the law are -/
def Gs (ps : Rw) : Prop := ∃ D M, Gd D M 8 63 ps ∧ 0 < D ∧ D < 2 ^ 900 ∧ M < 2 ^ 900
theorem lt_k {M n a b : Nat} (h : M < 2 ^ a) (hn : n ≤ 2 ^ 8) (hab : a + 8 ≤ b) : n * M < 2 ^ b := by
  have h1 : n * M ≤ 2 ^ 8 * M := Nat.mul_le_mul hn (Nat.le_refl _)
  have h2 : 2 ^ 8 * M < 2 ^ 8 * 2 ^ a := Nat.mul_lt_mul_of_pos_left h (by decide)
  rw [← Nat.pow_add] at h2
  have h3 := pow_le' (show 8 + a ≤ b by omega)
  omega
theorem Gs.q {ps : Rw} (h : Gs ps) : Gq ps := by
  obtain ⟨D, M, g, hD, h1, h2⟩ := h
  exact ⟨D, M, 8, g, hD, Nat.lt_of_lt_of_le h1 (pow_le' (by decide)), Nat.lt_of_lt_of_le h2 (pow_le' (by decide))⟩
theorem Gs.norm {ps : Rw} (h : Gs ps) : Gq (norm ps) := by
  obtain ⟨D, M, g, hD, h1, h2⟩ := h
  exact ⟨D, 63 * M, 8, g.norm hD, hD, Nat.lt_of_lt_of_le h1 (pow_le' (by decide)), lt_k h2 (by decide) (by decide)⟩
theorem Gs.mv {ps : Rw} (h : Gs ps) {n : Int} (h0 : 0 ≤ n) (h1' : n ≤ 8) : Gq (mv n (Q7.norm ps)) := by
  obtain ⟨D, M, g, hD, h1, h2⟩ := h
  exact ⟨D, 63 * M, 8 + 8, (g.norm hD).mv (N := 8) h0 (by omega), hD, Nat.lt_of_lt_of_le h1 (pow_le' (by decide)), lt_k h2 (by decide) (by decide)⟩
theorem Gq.single {n : Int} (h0 : 0 ≤ n) (h1 : n ≤ 8) : Gq [(n, 1)] := ⟨1, 1, 8, (Gd.single (N := 8) h0 (by omega)).mono (Nat.le_refl _) (Nat.le_refl _) (by decide), by decide, Nat.one_lt_two_pow (by decide), Nat.one_lt_two_pow (by decide)⟩
theorem Gq.singleN {n : Int} (h0 : 0 ≤ n) (h1 : n ≤ 8) : Gq (norm [(n, 1)]) := ⟨1, 1 * 1, 8, ((Gd.single (N := 8) h0 (by omega)).norm (by decide)).mono (Nat.le_refl _) (Nat.le_refl _) (by decide), by decide, Nat.one_lt_two_pow (by decide), Nat.one_lt_two_pow (by decide)⟩
theorem Gs.single {ps : Rw} (h : Gs ps) {n : Int} (h0 : 0 ≤ n) (h1' : n ≤ 8) : Gq (prod (Q7.norm ps) (Q7.norm [(n, 1)])) := by
  obtain ⟨D, M, g, hD, h1, h2⟩ := h
  have := (g.norm hD).prod ((Gd.single (N := 8) h0 (by omega)).norm (by decide))
  exact ⟨D * 1, (63 * M) * (1 * 1), 8 + 8, this, by omega, by rw [Nat.mul_one]; exact Nat.lt_of_lt_of_le h1 (pow_le' (by decide)), by rw [Nat.mul_one]; exact lt_k h2 (by decide) (by decide)⟩
theorem Gs.tick {ps : Rw} (h : Gs ps) : ∀ p ∈ Q7.norm ps, 0 ≤ p.1 ∧ p.1 < (9 : Nat) := by
  obtain ⟨D, M, g, hD, h1, h2⟩ := h
  intro p hp
  have g2 := g.norm hD
  have := g2.lo p hp
  have := g2.hi p hp
  omega
theorem p900 {D : Nat} (h : D < 2 ^ 100) : D < 2 ^ 900 := Nat.lt_of_lt_of_le h (pow_le' (by decide))
theorem p1000 {D : Nat} (h : D < 2 ^ 100) : D < 2 ^ 2900 := Nat.lt_of_lt_of_le h (pow_le' (by decide))
abbrev Gp (ps : Rw) : Prop := Gd 60 240 4 5 ps
section
variable {a b c : Rw}
theorem Gp.s (h : Gp a) : Gs a := ⟨60, 240, h.mono (by decide) (by decide) (by decide), by decide, p900 (by decide), p900 (by decide)⟩
theorem Gp.n (h : Gp a) : Gd 60 1200 4 5 (norm a) := h.norm (by decide)
theorem Gp.gq (h : Gp a) : Gq (norm a) := h.s.norm
theorem Gp.pr (h : Gp a) (k : Gp b) : Gd 3600 57600 8 25 (prod a b) := h.prod k
theorem Gp.prq (h : Gp a) (k : Gp b) : Gq (prod a b) := Gq.of (h.pr k) (by decide) (p1000 (by decide)) (p1000 (by decide)) (by decide)
theorem Gp.prs (h : Gp a) (k : Gp b) : Gs (norm (prod a b)) := ⟨3600, 25 * 57600, ((h.pr k).norm (by decide)).mono (Nat.le_refl _) (by decide) (by decide), by decide, p900 (by decide), p900 (by decide)⟩
theorem Gp.sum (h : Gp a) (k : Gp b) : Gd 60 240 4 10 (a ++ b) := h.app k
theorem Gp.sumq (h : Gp a) (k : Gp b) : Gq (a ++ b) := Gq.of (h.sum k) (by decide) (p1000 (by decide)) (p1000 (by decide)) (by decide)
theorem Gp.sumn (h : Gp a) (k : Gp b) : Gd 60 1200 4 10 (norm a ++ norm b) := h.n.app k.n
theorem Gp.sumnq (h : Gp a) (k : Gp b) : Gq (norm a ++ norm b) := Gq.of (h.sumn k) (by decide) (p1000 (by decide)) (p1000 (by decide)) (by decide)
theorem Gp.sumN (h : Gp a) (k : Gp b) : Gd 60 12000 4 5 (norm (norm a ++ norm b)) := (h.sumn k).normT (by decide)
theorem Gp.sumNq (h : Gp a) (k : Gp b) : Gq (norm (norm a ++ norm b)) := Gq.of (h.sumN k) (by decide) (p1000 (by decide)) (p1000 (by decide)) (by decide)
theorem Gp.prn (h : Gp a) (k : Gp b) : Gd 3600 1440000 8 25 (prod (norm a) (norm b)) := h.n.prod k.n
theorem Gp.prnq (h : Gp a) (k : Gp b) : Gq (prod (norm a) (norm b)) := Gq.of (h.prn k) (by decide) (p1000 (by decide)) (p1000 (by decide)) (by decide)
theorem Gp.prN (h : Gp a) (k : Gp b) : Gd 3600 36000000 8 9 (norm (prod (norm a) (norm b))) := (h.prn k).normT (by decide)
theorem Gp.prNq (h : Gp a) (k : Gp b) : Gq (norm (prod (norm a) (norm b))) := Gq.of (h.prN k) (by decide) (p1000 (by decide)) (p1000 (by decide)) (by decide)
theorem Gp.pr3 (h : Gp a) (k : Gp b) (l : Gp c) : Gq (prod (norm (prod (norm a) (norm b))) (norm c)) := Gq.of ((h.prN k).prod l.n) (by decide) (p1000 (by decide)) (p1000 (by decide)) (by decide)
theorem Gp.pr3' (h : Gp a) (k : Gp b) (l : Gp c) : Gq (prod (norm a) (norm (prod (norm b) (norm c)))) := Gq.of (h.n.prod (k.prN l)) (by decide) (p1000 (by decide)) (p1000 (by decide)) (by decide)
theorem Gp.prs3 (h : Gp a) (k : Gp b) (l : Gp c) : Gq (prod (norm a) (norm (norm b ++ norm c))) := Gq.of (h.n.prod (k.sumN l)) (by decide) (p1000 (by decide)) (p1000 (by decide)) (by decide)
theorem Gp.spr3 (h : Gp a) (k : Gp b) (l : Gp c) : Gq (norm (prod (norm a) (norm b)) ++ norm (prod (norm a) (norm c))) := Gq.of ((h.prN k).app (h.prN l)) (by decide) (p1000 (by decide)) (p1000 (by decide)) (by decide)
end
end Q7
set_option maxHeartbeats 2000000
namespace Q7
theorem wt_congr {f g : Int → Rat} : ∀ {a : Rw}, (∀ p ∈ a, f p.1 = g p.1) → wt f a = wt g a
  | [], _ => rfl
  | (t, q) :: r, h => by
    show q * f t + wt f r = q * g t + wt g r
    rw [wt_congr (a := r) fun p hp => h p (List.mem_cons_of_mem _ hp), show f t = g t from h (t, q) List.mem_cons_self]
theorem wt_upTo (f : Int → Rat) (n : Int) : ∀ a : Rw, wt f (upTo n a) = wt (fun u => if u ≤ n then f u else 0) a
  | [] => rfl
  | (t, q) :: r => by
    have ih := wt_upTo f n r
    unfold upTo at *
    show _ = q * (if t ≤ n then f t else 0) + wt (fun u => if u ≤ n then f u else 0) r
    by_cases e : t ≤ n
    · rw [if_pos e, List.filter_cons_of_pos (by simpa using e), ← ih]
      rfl
    · rw [if_neg e, List.filter_cons_of_neg (by simpa using e), ← ih, Rat.mul_zero, Rat.zero_add]
theorem sum_wt : ∀ a : Rw, (a.map (·.2)).sum = wt (fun _ => 1) a
  | [] => rfl
  | (t, q) :: r => by
    show (q :: r.map (·.2)).sum = q * 1 + wt (fun _ => 1) r
    rw [List.sum_cons, sum_wt r, Rat.mul_one]
abbrev tot (a : Rw) : Rat := (a.map (·.2)).sum
theorem nf_eq {a b : Rw} (ha : Nf a) (hb : Nf b) (h : ∀ f, wt f a = wt f b) : a = b := Nf.eq ha hb h
theorem norm_nil : norm [] = [] := Nf.eq (norm_nf []) ⟨.nil, by simp⟩ fun f => wt_norm f []
theorem add_assoc3 (a b c : Rw) : norm (norm (a ++ b) ++ c) = norm (a ++ norm (b ++ c)) := norm_eq fun f => by
  rw [wt_append, wt_norm, wt_append, wt_append, wt_norm, wt_append, Rat.add_assoc]
theorem add_none {a : Rw} (h : Nf a) : norm (a ++ norm []) = a := by rw [norm_nil, List.append_nil]; exact norm_self h
theorem mul_none (a : Rw) : norm (prod a (norm [])) = [] := by
  rw [norm_nil]
  refine Nf.eq (norm_nf _) ⟨.nil, by simp⟩ fun f => ?_
  rw [wt_norm, wt_prod]
  show wt (fun _ => 0) a = 0
  exact wt_zero a
theorem add_mul' (a b c : Rw) : norm (prod (norm (a ++ b)) c) = norm (norm (prod a c) ++ norm (prod b c)) := norm_eq fun f => by
  rw [wt_append, wt_norm, wt_norm, wt_prod, wt_norm, wt_append, wt_prod, wt_prod]
theorem wt_single (f : Int → Rat) (t : Int) (x : Rat) : wt f [(t, x)] = x * f t := by
  show x * f t + 0 = _
  rw [Rat.add_zero]
theorem mul_one' {a : Rw} (h : Nf a) : norm (prod a (norm [(0, 1)])) = a := norm_of h fun f => by
  rw [wt_prod]
  congr 1
  funext t
  rw [wt_norm, wt_single, Rat.one_mul, Int.add_zero]
theorem add_self (a : Rw) : norm (a ++ a) = norm (prod a (norm [(0, 2)])) := norm_eq fun f => by
  rw [wt_append, wt_prod, ← wt_add]
  congr 1
  funext t
  rw [wt_norm, wt_single, Int.add_zero]
  grind
theorem add_neg' (a : Rw) : norm (a ++ norm (prod a (norm [(0, -1)]))) = norm [] := norm_eq fun f => by
  rw [wt_append, wt_norm, wt_prod, ← wt_add]
  show _ = 0
  rw [← wt_zero a]
  congr 1
  funext t
  rw [wt_norm, wt_single, Int.add_zero]
  grind
theorem tot_norm (a : Rw) : tot (norm a) = tot a := by rw [tot, tot, sum_wt, sum_wt, wt_norm]
theorem tot_app (a b : Rw) : tot (a ++ b) = tot a + tot b := by rw [tot, tot, tot, sum_wt, sum_wt, sum_wt, wt_append]
theorem wt_const (x : Rat) (a : Rw) : wt (fun _ => x) a = tot a * x := by
  have := wt_smul x (fun _ => 1) a
  rw [tot, sum_wt]
  rw [show (fun _ : Int => x) = fun t => x * (fun _ : Int => (1 : Rat)) t from funext fun _ => by rw [Rat.mul_one], this, Rat.mul_comm]
theorem tot_prod (a b : Rw) : tot (prod a b) = tot a * tot b := by
  rw [tot, sum_wt, wt_prod, wt_const, tot, tot, sum_wt b]
/-! ### ticks -/
theorem mem_keys {a : Rw} {t : Int} (h : t ∈ a.map (·.1)) : ∃ q, (t, q) ∈ a := by
  obtain ⟨p, hp, rfl⟩ := List.mem_map.mp h
  exact ⟨p.2, hp⟩
theorem look_in {a : Rw} (h : Nf a) (t : Int) : decide (look a t = 0) = !decide (t ∈ a.map (·.1)) := by
  by_cases e : t ∈ a.map (·.1)
  · obtain ⟨q, hq⟩ := mem_keys e
    rw [decide_eq_true e, decide_eq_false]
    · rfl
    · rw [look_nf h]
      have := h.wt_mem (t, q) hq
      simp only at this
      rw [this]
      exact h.nz _ hq
  · rw [decide_eq_false e, look_mem fun p hp z => e (List.mem_map.mpr ⟨p, hp, z⟩)]
    rfl
theorem tot_step {a : Rw} (h : Nf a) (t : Int) : tot (upTo t a) = tot (upTo (t - 1) a) + look a t := by
  rw [look_nf h, tot, tot, sum_wt, sum_wt, wt_upTo, wt_upTo, ← wt_add]
  refine wt_congr fun p _ => ?_
  unfold at_
  by_cases h1 : p.1 ≤ t - 1
  · rw [if_pos h1, if_pos (by omega), if_neg (by omega), Rat.add_zero]
  · rw [if_neg h1, Rat.zero_add]
    by_cases h2 : p.1 = t
    · rw [if_pos (by omega), if_pos h2]
    · rw [if_neg (by omega), if_neg h2]
theorem cut_cut {a : Rw} {t u : Int} (h : t ≤ u) : upTo u (upTo t a) = upTo t a := by
  unfold upTo
  rw [List.filter_eq_self]
  intro p hp
  have := of_decide_eq_true (List.mem_filter.mp hp).2
  exact decide_eq_true (by omega)
theorem norm_upTo (t : Int) (a : Rw) : norm (upTo t (norm a)) = norm (upTo t a) := norm_eq fun f => by rw [wt_upTo, wt_norm, wt_upTo]
theorem upTo_norm (t : Int) (a : Rw) : upTo t (norm a) = norm (upTo t a) := by rw [← norm_upTo, norm_self (nf_upTo (norm_nf a))]
theorem cut_add (t : Int) (a b : Rw) : norm (upTo t (norm (a ++ b))) = norm (norm (upTo t a) ++ norm (upTo t b)) := by
  rw [norm_upTo, add_ok]
  unfold upTo
  rw [List.filter_append]
theorem cut_mul (t : Int) {a b : Rw} (ha : ∀ p ∈ a, 0 ≤ p.1) (hb : ∀ p ∈ b, 0 ≤ p.1) : norm (upTo t (norm (prod a b))) = norm (upTo t (norm (prod (norm (upTo t a)) (norm (upTo t b))))) := by
  rw [norm_upTo, norm_upTo]
  refine norm_eq fun f => ?_
  rw [wt_upTo, wt_upTo, wt_prod, wt_prod, wt_norm, wt_upTo]
  refine wt_congr fun p hp => ?_
  have h1 := ha p hp
  rw [wt_norm, wt_upTo]
  by_cases e : p.1 ≤ t
  · rw [if_pos e]
    refine wt_congr fun q hq => ?_
    have h2 := hb q hq
    by_cases e2 : q.1 ≤ t
    · rw [if_pos e2]
    · rw [if_neg e2, if_neg (by omega)]
  · rw [if_neg e]
    refine (wt_congr (g := fun _ => 0) fun q hq => ?_).trans (wt_zero b)
    have h2 := hb q hq
    rw [if_neg (by omega)]
theorem mv_mul (t : Int) (a b : Rw) : norm (mv t (norm (prod a b))) = norm (prod (norm (mv t a)) b) := norm_eq fun f => by
  rw [wt_mv, wt_norm, wt_prod, wt_prod, wt_norm, wt_mv]
  congr 1
  funext x
  congr 1
  funext y
  rw [show x + y + t = x + t + y by omega]
theorem mv_cut (t : Int) (a : Rw) : upTo (t + 3) (mv t a) = mv t (upTo 3 a) := by
  unfold upTo mv
  rw [List.filter_map]
  congr 1
  refine List.filter_congr fun p _ => ?_
  show decide (p.1 + t ≤ t + 3) = decide (p.1 ≤ 3)
  by_cases h : p.1 ≤ 3
  · rw [decide_eq_true h, decide_eq_true (by omega)]
  · rw [decide_eq_false h, decide_eq_false (by omega)]
theorem less_eq {p q : Rat} (h : p < q) : decide (p.num * q.den < q.num * p.den) = true := decide_eq_true (Rat.lt_iff p q |>.mp h)
/-! ### keys -/
def Kb (n : Nat) (ps : Rw) : Prop := ∃ ks : List Int, ks.length ≤ n ∧ ∀ p ∈ ps, p.1 ∈ ks
theorem nodup_len : ∀ {l ks : List Int}, l.Nodup → (∀ x ∈ l, x ∈ ks) → l.length ≤ ks.length
  | [], _, _, _ => by simp
  | x :: r, ks, h, s => by
    have h1 := List.nodup_cons.mp h
    have := nodup_len (l := r) (ks := ks.erase x) h1.2 fun y hy => (List.mem_erase_of_ne fun e => h1.1 (by rw [← e]; exact hy)).mpr (s y (List.mem_cons_of_mem _ hy))
    rw [List.length_erase_of_mem (s x List.mem_cons_self)] at this
    have := List.length_pos_of_mem (s x List.mem_cons_self)
    rw [List.length_cons]
    omega
theorem Kb.norm {n : Nat} {ps : Rw} (h : Kb n ps) : (Q7.norm ps).length ≤ n := by
  obtain ⟨ks, hl, hk⟩ := h
  refine Nat.le_trans ?_ hl
  rw [← List.length_map (·.1)]
  refine nodup_len (List.nodup_iff_pairwise_ne.mpr ?_) fun x hx => ?_
  · rw [List.pairwise_map]
    exact (norm_nf ps).asc.imp fun h => by omega
  · obtain ⟨p, hp, rfl⟩ := List.mem_map.mp hx
    obtain ⟨q, hq, e⟩ := List.mem_map.mp (norm_sub ps p hp)
    rw [← e]
    exact hk q hq
theorem Gd.scale {D M T L k : Nat} {a : Rw} (hk : 0 < k) (h : Gd D M T L a) : Gd (D * k) (M * k) T L a := ⟨fun p hp => (h.nd p hp).scale hk, h.lo, h.hi, h.len⟩
theorem Gd.short' {D M T L n : Nat} {a : Rw} (h : Gd D M T L a) (l : a.length ≤ n) : Gd D M T n a := ⟨h.nd, h.lo, h.hi, l⟩
/-! ### three rows of the law -/
structure Gr (D M T : Nat) (a : Rw) : Prop where
  g : Gd D M T 3 a
  nf : Nf a
structure Gu (D M : Nat) : Prop where
  pos : 0 < D
  d : D < 2 ^ 450
  m : M < 2 ^ 500
theorem mul_lt_pow {a b n m k : Nat} (h1 : a < 2 ^ n) (h2 : b < 2 ^ m) (h : n + m ≤ k) : a * b < 2 ^ k := by
  refine Nat.lt_of_lt_of_le (Nat.mul_lt_mul'' h1 h2) ?_
  rw [← Nat.pow_add]
  exact pow_le' h
theorem up_pow {a n k : Nat} (h1 : a < 2 ^ n) (h : n ≤ k) : a < 2 ^ k := Nat.lt_of_lt_of_le h1 (pow_le' h)
section
variable {D M T : Nat} {a b c : Rw}
theorem Gr.q (u : Gu D M) (h : Gr D M T a) : Gq a := Gq.of h.g u.pos (up_pow u.d (by decide)) (up_pow u.m (by decide)) (by decide)
/-- a sum -/
theorem Gr.add (u : Gu D M) (h : Gr D M T a) (k : Gr D M T b) : Gd D M T 6 (a ++ b) := h.g.app k.g
theorem Gr.addn (u : Gu D M) (h : Gr D M T a) (k : Gr D M T b) : Gd D (6 * M) T 6 (norm (a ++ b)) := (h.g.app k.g).norm u.pos
theorem Gr.mul (u : Gu D M) (h : Gr D M T a) (k : Gr D M T b) : Gd (D * D) (M * M) (T + T) 9 (prod a b) := h.g.prod k.g
theorem Gr.muln (u : Gu D M) (h : Gr D M T a) (k : Gr D M T b) : Gd (D * D) (9 * (M * M)) (T + T) 9 (norm (prod a b)) := (h.g.prod k.g).norm (Nat.mul_pos u.pos u.pos)
theorem Gu.dd (u : Gu D M) : D * D < 2 ^ 900 := mul_lt_pow u.d u.d (by decide)
theorem Gu.mm (u : Gu D M) : M * M < 2 ^ 1000 := mul_lt_pow u.m u.m (by decide)
theorem Gu.m9 (u : Gu D M) : 9 * (M * M) < 2 ^ 1010 := mul_lt_pow (n := 4) (by decide) u.mm (by decide)
theorem Gu.m6 (u : Gu D M) : 6 * M < 2 ^ 510 := mul_lt_pow (n := 4) (by decide) u.m (by decide)
theorem Gr.addq (u : Gu D M) (h : Gr D M T a) (k : Gr D M T b) : Gq (a ++ b) := Gq.of (h.add u k) u.pos (up_pow u.d (by decide)) (up_pow u.m (by decide)) (by decide)
theorem Gr.addnq (u : Gu D M) (h : Gr D M T a) (k : Gr D M T b) : Gq (norm (a ++ b)) := Gq.of (h.addn u k) u.pos (up_pow u.d (by decide)) (up_pow u.m6 (by decide)) (by decide)
theorem Gr.mulq (u : Gu D M) (h : Gr D M T a) (k : Gr D M T b) : Gq (prod a b) := Gq.of (h.mul u k) (Nat.mul_pos u.pos u.pos) (up_pow u.dd (by decide)) (up_pow u.mm (by decide)) (by decide)
theorem Gr.mulnq (u : Gu D M) (h : Gr D M T a) (k : Gr D M T b) : Gq (norm (prod a b)) := Gq.of (h.muln u k) (Nat.mul_pos u.pos u.pos) (up_pow u.dd (by decide)) (up_pow u.m9 (by decide)) (by decide)
/-- the sum of a sum and a row, either way -/
theorem Gr.add3 (u : Gu D M) (h : Gr D M T a) (k : Gr D M T b) (l : Gr D M T c) : Gq (norm (a ++ b) ++ c) := Gq.of ((h.addn u k).app (l.g.mono (show M ≤ 6 * M by omega) (Nat.le_refl _) (Nat.le_refl _))) u.pos (up_pow u.d (by decide)) (up_pow u.m6 (by decide)) (by decide)
theorem Gr.add3' (u : Gu D M) (h : Gr D M T a) (k : Gr D M T b) (l : Gr D M T c) : Gq (a ++ norm (b ++ c)) := Gq.of ((h.g.mono (show M ≤ 6 * M by omega) (Nat.le_refl _) (Nat.le_refl _)).app (k.addn u l)) u.pos (up_pow u.d (by decide)) (up_pow u.m6 (by decide)) (by decide)
theorem Gu.ddd (u : Gu D M) : D * D * D < 2 ^ 1350 := mul_lt_pow u.dd u.d (by decide)
theorem Gu.mmm (u : Gu D M) : 9 * (M * M) * M < 2 ^ 1510 := mul_lt_pow u.m9 u.m (by decide)
theorem Gr.mul3 (u : Gu D M) (h : Gr D M T a) (k : Gr D M T b) (l : Gr D M T c) : Gq (prod (norm (prod a b)) c) := Gq.of ((h.muln u k).prod l.g) (Nat.mul_pos (Nat.mul_pos u.pos u.pos) u.pos) (up_pow u.ddd (by decide)) (up_pow u.mmm (by decide)) (by decide)
theorem Gr.mul3' (u : Gu D M) (h : Gr D M T a) (k : Gr D M T b) (l : Gr D M T c) : Gq (prod a (norm (prod b c))) := Gq.of (h.g.prod (k.muln u l)) (Nat.mul_pos u.pos (Nat.mul_pos u.pos u.pos)) (by rw [Nat.mul_comm]; exact up_pow u.ddd (by decide)) (by rw [Nat.mul_comm]; exact up_pow u.mmm (by decide)) (by decide)
theorem Gr.muladd (u : Gu D M) (h : Gr D M T a) (k : Gr D M T b) (l : Gr D M T c) : Gq (prod a (norm (b ++ c))) := Gq.of (h.g.prod (k.addn u l)) (Nat.mul_pos u.pos u.pos) (up_pow u.dd (by decide)) (by rw [Nat.mul_comm]; exact mul_lt_pow u.m6 u.m (by decide)) (by decide)
theorem Gr.addmul (u : Gu D M) (h : Gr D M T a) (k : Gr D M T b) (l : Gr D M T c) : Gq (prod (norm (a ++ b)) c) := Gq.of ((h.addn u k).prod l.g) (Nat.mul_pos u.pos u.pos) (up_pow u.dd (by decide)) (mul_lt_pow u.m6 u.m (by decide)) (by decide)
theorem Gr.mulsum {a' b' : Rw} (u : Gu D M) (h : Gr D M T a) (k : Gr D M T b) (h' : Gr D M T a') (k' : Gr D M T b') : Gq (norm (prod a b) ++ norm (prod a' b')) := Gq.of ((h.muln u k).app (h'.muln u k')) (Nat.mul_pos u.pos u.pos) (up_pow u.dd (by decide)) (up_pow u.m9 (by decide)) (by decide)
end
end Q7
namespace Q7
theorem ND.m1 : ND 1 2 (-1) := ⟨-1, by rfl, by decide⟩
theorem ND.p2 : ND 1 2 2 := ⟨2, by rfl, by decide⟩
theorem ND.p1 : ND 1 2 1 := ⟨1, by rfl, by decide⟩
theorem Gd.lone {n : Int} {T : Nat} {q : Rat} (hq : ND 1 2 q) (h0 : 0 ≤ n) (h1 : n ≤ T) : Gd 1 2 T 1 [(n, q)] := by
  refine ⟨?_, ?_, ?_, by simp⟩
  · intro p hp; rw [List.mem_singleton] at hp; subst hp; exact hq
  · intro p hp; rw [List.mem_singleton] at hp; subst hp; exact h0
  · intro p hp; rw [List.mem_singleton] at hp; subst hp; exact h1
theorem Gq.lone {n : Int} {q : Rat} (hq : ND 1 2 q) (h0 : 0 ≤ n) : Gq [(n, q)] := Gq.of (Gd.lone (T := n.toNat) hq h0 (by omega)) (by decide) (Nat.one_lt_two_pow (by decide)) (up_pow (n := 2) (by decide) (by decide)) (by decide)
theorem Gq.loneN {n : Int} {q : Rat} (hq : ND 1 2 q) (h0 : 0 ≤ n) : Gq (norm [(n, q)]) := Gq.of ((Gd.lone (T := n.toNat) hq h0 (by omega)).norm (by decide)) (by decide) (Nat.one_lt_two_pow (by decide)) (up_pow (n := 2) (by decide) (by decide)) (by decide)
theorem Gq.none : Gq [] := Gq.of (D := 1) (M := 0) (T := 0) (L := 0) ⟨by simp, by simp, by simp, by simp⟩ (by decide) (Nat.one_lt_two_pow (by decide)) (Nat.two_pow_pos _) (by decide)
theorem Gq.noneN : Gq (norm []) := by rw [norm_nil]; exact Gq.none
section
variable {D M T : Nat} {a b c : Rw}
theorem Gr.lone (u : Gu D M) (h : Gr D M T a) {n : Int} {q : Rat} (hq : ND 1 2 q) (h0 : 0 ≤ n) : Gq (prod a (norm [(n, q)])) := by
  have := h.g.prod ((Gd.lone (T := n.toNat) hq h0 (by omega)).norm (by decide))
  exact Gq.of this (by have := u.pos; omega) (by rw [Nat.mul_one]; exact up_pow u.d (by decide)) (mul_lt_pow (m := 2) u.m (by decide) (by decide)) (by decide)
theorem Gr.none (u : Gu D M) (h : Gr D M T a) : Gq (a ++ norm []) := by rw [norm_nil, List.append_nil]; exact h.q u
theorem prod_nil : ∀ a : Rw, prod a [] = []
  | [] => rfl
  | p :: r => by
    show ([] : Rw) ++ prod r [] = []
    rw [prod_nil r]; rfl
theorem Gr.mnone (h : Gr D M T a) : Gq (prod a (norm [])) := by rw [norm_nil, prod_nil]; exact Gq.none
theorem Gr.self (u : Gu D M) (h : Gr D M T a) : Gq (a ++ a) := h.addq u h
theorem Gr.neg (u : Gu D M) (h : Gr D M T a) : Gq (a ++ norm (prod a (norm [(0, -1)]))) := by
  have h1 := h.g.prod ((Gd.lone (n := 0) (T := T) ND.m1 (by decide) (by omega)).norm (by decide))
  have h2 := h1.norm (by have := u.pos; omega)
  rw [Nat.mul_one] at h2
  have h3 := (h.g.mono (show M ≤ 3 * 1 * (M * (1 * 2)) by omega) (show T ≤ T + T by omega) (Nat.le_refl _)).app h2
  exact Gq.of h3 u.pos (up_pow u.d (by decide)) (by rw [show 3 * 1 * (M * (1 * 2)) = 6 * M by omega]; exact up_pow u.m6 (by decide)) (by decide)
end
end Q7
namespace Q7
def eps : Rat := ⟨1, 1000000000, by decide, by decide⟩
theorem eps_pos : (0 : Rat) < eps := by decide
theorem less_eps (p : Rat) : p < p + eps := by
  have := eps_pos
  grind
theorem Gq.tot {a : Rw} (h : Gq a) : B 3000 (tot a) := by
  have := h.psum a.length
  rwa [show (a.map (·.2)).take a.length = a.map (·.2) by rw [← List.length_map (·.2), List.take_length]] at this
theorem tot_add (a b : Rw) : tot (norm (a ++ b)) = tot a + tot b := by rw [tot_norm, tot_app]
theorem tot_mul (a b : Rw) : tot (norm (prod a b)) = tot a * tot b := by rw [tot_norm, tot_prod]
theorem below (p : Rat) : 0 + -p + p = 0 := by grind
theorem over_back (a b : Rw) (h : tot b ≠ 0) : tot (norm (prod a b)) / tot b = tot a := by
  rw [tot_mul]
  exact Rat.mul_div_cancel h
end Q7
namespace Q7
theorem Gr.totB {D M T : Nat} {a : Rw} (u : Gu D M) (h : Gr D M T a) : B 510 (tot a) := by
  have := ND.sum u.pos (qs := a.map (·.2)) (M := M) fun q hq => by
    obtain ⟨p, hp, rfl⟩ := List.mem_map.mp hq
    exact h.g.nd p hp
  refine (this.mono (M' := 3 * M) ?_).B u.pos (up_pow u.d (by decide)) (mul_lt_pow (n := 2) (by decide) u.m (by decide))
  rw [List.length_map]
  exact Nat.mul_le_mul h.g.len (Nat.le_refl _)
theorem Gr.totE {D M T : Nat} {a : Rw} (u : Gu D M) (h : Gr D M T a) : B 3000 (tot a + eps) := by
  have : B 40 eps := ⟨by decide, by decide⟩
  exact (B.add (h.totB u) this).mono (by decide)
end Q7
namespace Q7
theorem Gr.cut {D M T : Nat} {a : Rw} (h : Gr D M T a) (t : Int) : Gr D M T (upTo t a) := ⟨h.g.sub List.filter_sublist, nf_upTo h.nf⟩
theorem Gr.mvd {D M T : Nat} {a : Rw} (h : Gr D M T a) {t : Int} (h0 : 0 ≤ t) : Gr D M (T + t.toNat) (mv t a) := ⟨h.g.mv h0 (by omega), nf_mv h.nf⟩
theorem Gr.up {D M T U : Nat} {a : Rw} (h : Gr D M T a) (l : T ≤ U) : Gr D M U a := ⟨h.g.mono (Nat.le_refl _) l (Nat.le_refl _), h.nf⟩
theorem Gq.mvn {D M T L : Nat} {a : Rw} (h : Gd D M T L a) (hD : 0 < D) (h1 : D < 2 ^ 2900) (h2 : M < 2 ^ 2900) (h3 : L ≤ 63) {t : Int} (h0 : 0 ≤ t) : Gq (mv t a) := Gq.of (h.mv (N := t.toNat) h0 (by omega)) hD h1 h2 h3
theorem Gr.mulmv {D M T : Nat} {a b : Rw} (u : Gu D M) (h : Gr D M T a) (k : Gr D M T b) {t : Int} (h0 : 0 ≤ t) : Gq (mv t (norm (prod a b))) := Gq.mvn (h.muln u k) (Nat.mul_pos u.pos u.pos) (up_pow u.dd (by decide)) (up_pow u.m9 (by decide)) (by decide) h0
theorem ncut {a : Rw} (h : Nf a) (t : Int) : norm (upTo t a) = upTo t a := norm_self (nf_upTo h)
theorem nmv {a : Rw} (h : Nf a) (t : Int) : norm (mv t a) = mv t a := norm_self (nf_mv h)
theorem cut_mul' (t : Int) {a b : Rw} (ha : ∀ p ∈ a, 0 ≤ p.1) (hb : ∀ p ∈ b, 0 ≤ p.1) (na : Nf a) (nb : Nf b) : norm (upTo t (norm (prod a b))) = norm (upTo t (norm (prod (upTo t a) (upTo t b)))) := by
  have := cut_mul t ha hb
  rwa [ncut na, ncut nb] at this
theorem cut_add' (t : Int) {a b : Rw} (na : Nf a) (nb : Nf b) : norm (upTo t (norm (a ++ b))) = norm (upTo t a ++ upTo t b) := by
  have := cut_add t a b
  rwa [ncut na, ncut nb] at this
theorem mv_mul' (t : Int) {a : Rw} (b : Rw) (na : Nf a) : norm (mv t (norm (prod a b))) = norm (prod (mv t a) b) := by
  have := mv_mul t a b
  rwa [nmv na] at this
theorem mv_len (t : Int) (a : Rw) : (mv t a).length = a.length := by unfold mv; rw [List.length_map]
theorem Gr.lo {D M T : Nat} {a : Rw} (h : Gr D M T a) : ∀ p ∈ a, 0 ≤ p.1 := h.g.lo
end Q7
set_option maxRecDepth 100000
set_option maxHeartbeats 4000000
namespace Q7
open PySem PySem.Spec PyProof.Rows L2
/-! ### the texts of rows are short -/
theorem log_of {x : Int} {n : Nat} (h : x.natAbs < 2 ^ n) (hn : 0 < n) : x.natAbs.log2 < n := PySem.Flt.log2_lt_of hn h
def ShI (x : Int) : Prop := x.natAbs < 2 ^ 1900
theorem shI_log {x : Int} (h : ShI x) : x.natAbs.log2 < 1920 := Nat.lt_of_lt_of_le (log_of h (by decide)) (by decide)
theorem shI_text {x : Int} (h : ShI x) : (Str.ofString (toString x)).length ≤ 1921 := PyProof.Rows.int_text_len_1921 (shI_log h)
def ShP (p : Int × Rat) : Prop := ShI p.1 ∧ ShI p.2.num ∧ ShI p.2.den
theorem show_pr {p : Int × Rat} (h : ShP p) : (pr p).showable = true := by
  simp only [pr, fr, PyData.showable, PyData.showableAll, Bool.and_true, Bool.and_eq_true, decide_eq_true_eq]
  exact ⟨shI_log h.1, shI_log h.2.1, shI_log h.2.2⟩
theorem leaf_int {x : Int} (h : ShI x) : PyData.leavesShort 1921 (.int x) = true := by
  unfold PyData.leavesShort
  exact decide_eq_true (shI_text h)
theorem leaf_pr {p : Int × Rat} (h : ShP p) : (pr p).leavesShort 1921 = true := by
  have h1 := leaf_int h.1
  have h2 := leaf_int h.2.1
  have h3 := leaf_int h.2.2
  simp only [pr, fr, PyData.leavesShort, PyData.leavesShortAll, Bool.and_true, Bool.and_eq_true] at *
  exact ⟨h1, h2, h3⟩
theorem show_prs : ∀ {a : Rw}, (∀ p ∈ a, ShP p) → PyData.showableAll (a.map pr) = true
  | [], _ => by simp [PyData.showableAll]
  | p :: a, h => by
    simp only [List.map_cons, PyData.showableAll, show_pr (h p List.mem_cons_self), show_prs (a := a) fun q hq => h q (List.mem_cons_of_mem _ hq), Bool.and_self]
theorem leaf_prs : ∀ {a : Rw}, (∀ p ∈ a, ShP p) → PyData.leavesShortAll 1921 (a.map pr) = true
  | [], _ => by simp [PyData.leavesShortAll]
  | p :: a, h => by
    simp only [List.map_cons, PyData.leavesShortAll, leaf_pr (h p List.mem_cons_self), leaf_prs (a := a) fun q hq => h q (List.mem_cons_of_mem _ hq), Bool.and_self]
theorem bulk_prs : ∀ a : Rw, PyData.bulkAll (a.map pr) = 5 * a.length
  | [] => by simp [PyData.bulkAll]
  | p :: a => by
    have := bulk_prs a
    simp only [List.map_cons, PyData.bulkAll, this, List.length_cons, pr, fr, PyData.bulk]
    omega
abbrev dpr (a : Rw) : PyData := .list (a.map pr)
theorem dpr_show {a : Rw} (h : ∀ p ∈ a, ShP p) : (dpr a).showable = true := by
  simp only [dpr, PyData.showable]
  exact show_prs h
theorem dpr_dict (a : Rw) : (dpr a).hasDict = false := PyData.hasDict_of_canLay _ (by simp only [dpr, PyData.canLay0]; exact lay_prs a)
theorem dpr_dep (a : Rw) : (dpr a).depth ≤ 40 := by
  have := dep_prs a
  simp only [dpr, PyData.depth]
  omega
theorem dpr_len {a : Rw} (h : ∀ p ∈ a, ShP p) (hl : a.length ≤ 63) : (dpr a).shown.length + 64 ≤ sizeLine := by
  have h1 := PyData.shown_le_bulk 1921 (by decide) (dpr a) (by simp only [dpr, PyData.leavesShort]; exact leaf_prs h)
  have h2 : (dpr a).bulk = 5 * a.length := by simp only [dpr, PyData.bulk]; exact bulk_prs a
  rw [h2] at h1
  have h3 : (1921 + 2) * (5 * 63) + 1921 + 64 ≤ sizeLine := by decide
  have h4 : (1921 + 2) * (5 * a.length) ≤ (1921 + 2) * (5 * 63) := Nat.mul_le_mul (Nat.le_refl _) (by omega)
  omega
theorem Gr.sh {D M : Nat} {a : Rw} (u : Gu D M) (h : Gr D M (10 ^ 58) a) : ∀ p ∈ a, ShP p := fun p hp => by
  have hb : B 510 p.2 := (h.g.nd p hp).B u.pos (up_pow u.d (by decide)) (up_pow u.m (by decide))
  refine ⟨?_, ?_, ?_⟩
  · have h1 := h.g.lo p hp
    have h2 := h.g.hi p hp
    have h3 : (10 ^ 58 : Nat) < 2 ^ 200 := by decide
    exact up_pow (n := 200) (show p.1.natAbs < 2 ^ 200 by omega) (by decide)
  · exact up_pow hb.1 (by decide)
  · unfold ShI
    rw [Int.natAbs_natCast]
    exact up_pow hb.2 (by decide)
/-! ### their signs -/
theorem okS_of (s : String) : PyData.strOk (Str.ofString s) = true := by
  rw [Str.ofString_eq_toList]
  unfold PyData.strOk
  rw [List.all_toArray, List.all_eq_true]
  intro n hn
  obtain ⟨c, _, rfl⟩ := List.mem_map.mp hn
  have := c.valid
  refine decide_eq_true ?_
  show c.val.toNat < 1114112
  rcases this with h | h
  · have : c.val.toNat < 55296 := h
    omega
  · exact h.2
theorem okS_app {a b : Str} (ha : PyData.strOk a = true) (hb : PyData.strOk b = true) : PyData.strOk (a ++ b) = true := by
  unfold PyData.strOk at *
  show (a.cps ++ b.cps).all _ = true
  rw [Array.all_append, ha, hb]
  rfl
theorem okS_from : ∀ (ts : List Str) (k : Nat) (acc : Str), PyData.strOk acc = true → (∀ t ∈ ts, PyData.strOk t = true) → PyData.strOk (textFrom k acc ts) = true
  | [], _, _, h, _ => h
  | t :: ts, k, acc, h, hs => okS_from ts (k + 1) _ (okS_app (okS_app h (okS_of _)) (hs t List.mem_cons_self)) fun q hq => hs q (List.mem_cons_of_mem _ hq)
theorem okS_join : ∀ ts : List Str, (∀ t ∈ ts, PyData.strOk t = true) → PyData.strOk (Str.join ", " ts) = true
  | [], _ => by simp [Str.join, PyData.strOk, Str.empty]
  | [x], h => h x List.mem_cons_self
  | x :: y :: r, h => okS_app (okS_app (h x List.mem_cons_self) (okS_of _)) (okS_join (y :: r) fun t ht => h t (List.mem_cons_of_mem _ ht))
theorem okS_int (i : Int) : PyData.strOk (PyData.shown (.int i)) = true := okS_of _
theorem okS_tup {ds : List PyData} (h : ∀ t ∈ PyData.shownAll ds, PyData.strOk t = true) : PyData.strOk (PyData.shown (.tuple ds)) = true := by
  unfold PyData.shown
  exact okS_app (okS_app (okS_of _) (okS_join _ h)) (okS_of _)
theorem okS_pr (p : Int × Rat) : PyData.strOk (PyData.shown (pr p)) = true := by
  refine okS_tup fun t ht => ?_
  simp only [PyData.shownAll, List.mem_cons, List.not_mem_nil, or_false] at ht
  rcases ht with rfl | rfl
  · exact okS_int _
  · refine okS_tup fun t ht => ?_
    simp only [PyData.shownAll, List.mem_cons, List.not_mem_nil, or_false] at ht
    rcases ht with rfl | rfl
    · exact okS_int _
    · exact okS_int _
theorem okS_all : ∀ a : Rw, ∀ t ∈ PyData.shownAll (a.map pr), PyData.strOk t = true
  | [], t, h => by simp [PyData.shownAll] at h
  | p :: a, t, h => by
    simp only [List.map_cons, PyData.shownAll, List.mem_cons] at h
    rcases h with rfl | h
    · exact okS_pr p
    · exact okS_all a t h
theorem okS_dpr (a : Rw) : PyData.strOk (dpr a).shown = true := by
  unfold dpr PyData.shown listText
  exact okS_app (okS_from _ _ _ (okS_of _) (okS_all a)) (okS_of _)
/-- a normal row, brought to common bounds -/
theorem Gr.of {D M k E : Nat} {ps : Rw} (g : Gd D M (10 ^ 58) 6 ps) (kb : Kb 3 ps) (hD : 0 < D) (hM : M < 2 ^ 180) (hk : 0 < k) (hk2 : k < 2 ^ 280) (e : D * k = E) : Gr E (2 ^ 470) (10 ^ 58) (norm ps) := by
  subst e
  have h := ((g.norm hD).short' kb.norm).scale hk
  refine ⟨h.mono ?_ (Nat.le_refl _) (Nat.le_refl _), norm_nf ps⟩
  have h1 : 6 * M < 2 ^ 183 := mul_lt_pow (n := 3) (by decide) hM (by decide)
  exact Nat.le_of_lt (mul_lt_pow h1 hk2 (by decide))
theorem Gu.of {D1 D2 D3 : Nat} (h1 : 0 < D1) (h2 : 0 < D2) (h3 : 0 < D3) (l1 : D1 < 2 ^ 140) (l2 : D2 < 2 ^ 140) (l3 : D3 < 2 ^ 140) : Gu (D1 * D2 * D3) (2 ^ 470) :=
  ⟨Nat.mul_pos (Nat.mul_pos h1 h2) h3, mul_lt_pow (mul_lt_pow (k := 280) l1 l2 (by decide)) l3 (by decide), Nat.pow_lt_pow_right (by decide) (by decide)⟩
end Q7
set_option maxRecDepth 100000
set_option maxHeartbeats 4000000
namespace Q7
open PySem PySem.Spec PyProof.Rows L2
/-! ### calls by names alone -/
section
variable {X : Cx} {CX : CXT} {k : Nat} {f : Addr} {fd : FuncData} {ps ks : List Str} {sp : Sp} {E : XK} {x : Str} {p pos : Pos} {kws : List Keyword} {tk : TA} {g : List Value → List Value → List Value} {gV : List V → List V → List V}
theorem pe_callK0 (F : FnOk X.prog X.w X.K X.mg X.base CX k f fd ps sp) (room : Room k X.A) (gl : Gl X x) (here : X.mg x = some (.ref f)) (kp : PySem.W.keepIn X.K (.ref f) = true) (bnd : KBn X.K fd ps 0 ks g gV) (pass : Passes CX X E) (args : PK X kws tk)
    (named : (backToKw pos (keywordEach kws X.env)).all (·.1.isSome) = true := by rfl) (names : (backToKw pos (keywordEach kws X.env)).filterMap (·.1) = ks := by rfl) (nd : (x == ("__debug__" : Str)) = false := by decide)
    (plain : ((backTo pos (starEach [] X.env)).any (·.1) || (backToKw pos (keywordEach kws X.env)).any (·.1.isNone)) = false := by rfl) : PE X (.Call (.Name x p) [] kws pos) (tCallN 0 ks.length sp gV E tNil tk) := by
  constructor
  intro pins s σ H Q I h
  refine wpAny_Call_Name_kw (ld_glob I gl here (PySem.W.callWith_KW0 (h₀ := X.base) I.ok.mod.kin kp named (thn (args.run pos pins s σ H _ I h) fun ws s2 z => ?_) plain) nd)
  obtain ⟨zs, H2, I2, rz, l1, l2, q⟩ := z
  refine ⟨I2.kIn, ?_⟩
  rw [names]
  exact run_fnN (us := []) (vs := []) F room bnd pass I2 .nil rz rfl l2 q
end
section
variable {K : PySem.W.Frag} {x qual : Str} {params : Arguments} {body : List Stmt} {scope : Scope} {f : Addr} {fd : FuncData} {ps : List Str}
/-- names' places where no default stands -/
theorem kbP (F : FunD K x qual params body scope [] [] f fd) (n : Nat) (ks : List Str) (g : {α : Type} → List α → List α → List α) (rel : ∀ {vs zs : List V} {us ws : List Value}, Vals vs us → Vals zs ws → Vals (g vs zs) (g us ws))
    (h : ∀ (kV doc pm : Value) (an : Option Addr) (cdv ct : Value) (us ws : List Value), us.length = n → ws.length = ks.length → bindArgs (PySem.W.fnOf x qual params body scope .none kV doc pm an cdv ct) ⟨us, ks.zip ws⟩ = pure (ps.zip (g us ws))) :
    KBn K fd ps n ks (fun us ws => g us ws) (fun vs zs => g vs zs) := by
  obtain ⟨_, _, dV, kV, doc, pm, an, cdv, ct, _, rfl, _, _, hD, _⟩ := F.ex
  rcases hD with ⟨_, rfl⟩ | ⟨ne, _⟩
  · exact ⟨fun s us ws _ l1 l2 => .of_eq (h kV doc pm an cdv ct us ws l1 l2), rel⟩
  · exact absurd rfl ne
/-- (b = .., a = ..) of two parameters a, b -/
def swap2 {α : Type} (_ : List α) (ws : List α) : List α := match ws with
  | [a, b] => [b, a]
  | ws => ws
theorem swap2_rel {vs zs : List V} {us ws : List Value} (_ : Vals vs us) (h : Vals zs ws) : Vals (swap2 vs zs) (swap2 us ws) := by
  cases h with
  | nil => exact .nil
  | cons r1 h =>
    cases h with
    | nil => exact .cons r1 .nil
    | cons r2 h =>
      cases h with
      | nil => exact .cons r2 (.cons r1 .nil)
      | cons r3 h => exact .cons r1 (.cons r2 (.cons r3 h))
def swap3 {α : Type} (_ _ : List α) (ws : List α) : List α := match ws with
  | [a, b] => [b, a]
  | ws => ws
theorem swap3_rel {vs ds zs : List V} {us its ws : List Value} (h1 : Vals vs us) (_ : Vals ds its) (h : Vals zs ws) : Vals (swap3 vs ds zs) (swap3 us its ws) := swap2_rel h1 h
def only2 {α : Type} (_ : List α) (ws : List α) : List α := ws
end
/-! ### repr of any data, dicts of whole numbers too -/
def kvI (ns : List (Int × Int)) : List (Key × V) := ns.map fun q => (Sum.inl q.1, V.int q.2)
def dcI (ns : List (Int × Int)) : PyData := .dict (ns.map fun q => (.int q.1, .int q.2))
theorem readsI {h : Heap} {knd : KeyKind prog w Key} (kn : ∀ k v, knd.is k v = keyIs k v) : ∀ (ns : List (Int × Int)) {vs : List (Key × Value)} {es : List DictEntry}, KV (kvI ns) vs → Pairs knd es vs →
    ReadsAll h (es.map (·.key)) (ns.map fun q => PyData.int q.1) [] ∧ ReadsAll h (es.map (·.val)) (ns.map fun q => PyData.int q.2) []
  | [], _, _, r, p => by
    cases r
    cases p
    exact ⟨.nil, .nil⟩
  | q :: ns, _, _, r, p => by
    cases r with
    | cons r1 r2 =>
      cases p with
      | cons p1 p2 p3 =>
        obtain ⟨e1, t2, e2⟩ := r1
        obtain ⟨i1, i2⟩ := readsI kn ns r2 p3
        rw [kn, ← e1] at p1
        rcases keyIs_shape p1 with ⟨i, t, a1, a2⟩ | ⟨x, t, a1, a2⟩
        · cases a1
          refine ⟨?_, ?_⟩
          · simp only [List.map_cons]
            rw [a2]
            exact .cons (.int _ _) i1
          · simp only [List.map_cons]
            rw [p2, e2]
            exact .cons (.int _ _) i2
        · cases a1
def DpX (K : PySem.W.Frag) (H : Hp) (v : V) (d : PyData) : Prop := (Dp K H v d ∧ d.hasDict = false) ∨ ∃ a ns, v = .ref a ∧ H a = some (.dK (kvI ns)) ∧ d = dcI ns
theorem dpX_reads {X : Cx} {pins : List (Addr × Obj)} {σ : L2.St} {H : Hp} {s : Shared} {v : V} {u : Value} {d : PyData} (I : Inv X pins σ H s) (h : DpX X.K H v d) (r : RelV v u) : ∃ as, Reads s.heap u d as ∧ (d.hasDict = true → sysModules ∉ as) := by
  rcases h with ⟨h, nd⟩ | ⟨a, ns, rfl, ha, rfl⟩
  · obtain ⟨as, q⟩ := Dp.reads I d v u h r
    exact ⟨as, q, fun z => by rw [nd] at z; cases z⟩
  · cases r
    obtain ⟨_, nsys, vs, kv, o, es, ep, h1, h2, h3, _, prs, _⟩ := (show ObjOk X.prog X.w H s.heap a (.dK (kvI ns)) from I.hok a _ ha)
    obtain ⟨k1, k2⟩ := readsI (h := s.heap) (fun _ _ => rfl) ns kv prs
    refine ⟨_, Reads.dict h1 h2.1 h3 (by rw [List.map_map]; exact k1) (by rw [List.map_map]; exact k2), fun _ m => ?_⟩
    simp only [List.append_nil, List.mem_cons, List.not_mem_nil, or_false] at m
    rw [← m] at nsys
    simp at nsys
def rReprX (K : PySem.W.Frag) : List V → Hp → VK → Prop := fun as H Q => ∃ v d, as = [v] ∧ DpX K H v d ∧ d.showable = true ∧ d.depth ≤ 40 ∧ d.shown.length + 64 ≤ sizeLine ∧ Q (.str d.shown) H
theorem call_reprX {X : Cx} (g : X.A.guards = some []) (hu : X.A.units + 70 < cLine) : CallR X (.builtin "repr") (rReprX X.K) := by
  intro pins s σ H as us Q I r h
  obtain ⟨v, d, rfl, dp, sh, dep, sz, q⟩ := h
  obtain ⟨u, rfl, rel⟩ := vals1 r
  obtain ⟨bs, rd, hsm⟩ := dpX_reads I dp rel
  cases rd with
  | none => exact PySem.P.repr_of_none ⟨.str _, H, I.tok _, ⟨_, rfl⟩, q⟩
  | bool b => exact PySem.P.repr_of_bool ⟨.str _, H, I.tok _, ⟨_, rfl⟩, q⟩
  | int i t => exact PySem.P.repr_of_int (of_decide_eq_true sh) ⟨.str _, H, I.tok _, ⟨_, rfl⟩, q⟩
  | str x t => exact PySem.P.repr_of_str ⟨.str _, H, I.tok _, ⟨_, rfl⟩, q⟩ (by have : (reprText x).length + 64 ≤ sizeLine := sz; omega)
  | list a1 a2 a3 a4 => exact repr_of_reads' (.list a1 a2 a3 a4) sh hsm g (by omega) (fun _ _ z => z) (fun h' u tk kp => ⟨.str _, H, I.kept (t' := tk) kp, ⟨_, rfl⟩, q⟩) (by omega)
  | tuple a1 a2 a3 a4 => exact repr_of_reads' (.tuple a1 a2 a3 a4) sh hsm g (by omega) (fun _ _ z => z) (fun h' u tk kp => ⟨.str _, H, I.kept (t' := tk) kp, ⟨_, rfl⟩, q⟩) (by omega)
  | dict a1 a2 a3 a4 a5 => exact repr_of_reads' (.dict a1 a2 a3 a4 a5) sh hsm g (by omega) (fun _ _ z => z) (fun h' u tk kp => ⟨.str _, H, I.kept (t' := tk) kp, ⟨_, rfl⟩, q⟩) (by omega)
/-! ### the kind of any value -/
def kinds : List String := ["NoneType", "bool", "int", "str", "list", "tuple", "dict"]
def tKinds : Tst := fun K => kinds.all fun t => decide (PySem.W.kitOne K (.type t) (.type "int") = some (t == "int" || t == "bool")) && (decide (PySem.W.kitOne K (.type t) (.type "bool") = some (t == "bool")) && decide (PySem.W.kitOne K (.type t) (.type "tuple") = some (t == "tuple")))
structure Kit (K : PySem.W.Frag) (t : String) : Prop where
  int : PySem.W.kitOne K (.type t) (.type "int") = some (t == "int" || t == "bool")
  bool : PySem.W.kitOne K (.type t) (.type "bool") = some (t == "bool")
  tup : PySem.W.kitOne K (.type t) (.type "tuple") = some (t == "tuple")
theorem tKinds_ok {K : PySem.W.Frag} (c : tKinds K = true) : ∀ t ∈ kinds, Kit K t := fun t ht => by
  have h := List.all_eq_true.mp c t ht
  obtain ⟨h1, h⟩ := He.ba h
  obtain ⟨h2, h3⟩ := He.ba h
  exact ⟨of_decide_eq_true h1, of_decide_eq_true h2, of_decide_eq_true h3⟩
/-- v is of that kind -/
def Ki (K : PySem.W.Frag) (H : Hp) (v : V) (t : String) : Prop := TyX K H v (.type t) ∧ t ∈ kinds
section
variable {K : PySem.W.Frag} {H : Hp}
theorem ki_non : Ki K H .non "NoneType" := ⟨.base .non, by decide⟩
theorem ki_bl (b : Bool) : Ki K H (.bl b) "bool" := ⟨.base (.bl b), by decide⟩
theorem ki_int (i : Int) : Ki K H (.int i) "int" := ⟨.base (.int i), by decide⟩
theorem ki_str (x : Str) : Ki K H (.str x) "str" := ⟨.base (.str x), by decide⟩
theorem ki_tup {p : Addr} {xs : List V} (h : SqT K H p xs) : Ki K H (.ref p) "tuple" := ⟨tyT h, by decide⟩
theorem ki_lst {p : Addr} {xs : List V} (h : SqL K H p xs) : Ki K H (.ref p) "list" := ⟨tyL h, by decide⟩
theorem ki_dct {p : Addr} {xs : List (Key × V)} (h : H p = some (.dK xs)) : Ki K H (.ref p) "dict" := ⟨.base (.dK h), by decide⟩
/-- why a value is no fraction -/
inductive NoFr (K : PySem.W.Frag) (H : Hp) : V → Prop where
  | kind {v : V} {t : String} : Ki K H v t → t ≠ "tuple" → NoFr K H v
  | many {p : Addr} {xs : List V} : SqT K H p xs → xs.length ≠ 2 → NoFr K H (.ref p)
  | top {p : Addr} {x y : V} {t : String} : SqT K H p [x, y] → Ki K H x t → t ≠ "int" → NoFr K H (.ref p)
  | bot {p : Addr} {a : Int} {y : V} {t : String} : SqT K H p [.int a, y] → Ki K H y t → t ≠ "int" → NoFr K H (.ref p)
  | low {p : Addr} {a b : Int} : SqT K H p [.int a, .int b] → (b < 1 ∨ Nat.gcd a.natAbs b.natAbs ≠ 1) → NoFr K H (.ref p)
end
end Q7
set_option maxRecDepth 100000
set_option maxHeartbeats 4000000
namespace Q7
open PySem PySem.Spec PyProof.Rows L2
/-! ### any value stays what it is -/
section
variable {K : PySem.W.Frag} {H H' : Hp}
theorem rd_same {a : Addr} {u : HO} (s : Same H H') (h : Rd H a u) : Rd H' a u := h.elim (fun h => .inl (s _ _ h)) fun ⟨o, h⟩ => .inr ⟨o, s _ _ h⟩
theorem sqT_same {a : Addr} {xs : List V} (s : Same H H') (h : SqT K H a xs) : SqT K H' a xs := sqT_tk h (same_tk s)
theorem sqL_same {a : Addr} {xs : List V} (s : Same H H') (h : SqL K H a xs) : SqL K H' a xs := Same.seq s h
theorem tyOf_same {x : V} {t : Value} (s : Same H H') (h : TyOf K H x t) : TyOf K H' x t := by
  cases h with
  | non => exact .non
  | bl x => exact .bl x
  | int i => exact .int i
  | str x => exact .str x
  | flt x => exact .flt x
  | lst h => exact .lst (s _ _ h)
  | frz h => exact .frz (s _ _ h)
  | tup h => exact .tup (s _ _ h)
  | dK h => exact .dK (s _ _ h)
  | dT h => exact .dT (s _ _ h)
  | ins h a b c d e => exact .ins (s _ _ h) a b c d e
theorem tyX_same {x : V} {t : Value} (s : Same H H') (h : TyX K H x t) : TyX K H' x t := by
  cases h with
  | base h => exact .base (tyOf_same s h)
  | byt b => exact .byt b
  | set h => exact .set (s _ _ h)
  | kList a b => exact .kList a b
  | kTuple a b => exact .kTuple a b
  | kDict a b => exact .kDict a b
  | fTuple h => exact .fTuple (s _ _ h)
  | fDict h => exact .fDict (s _ _ h)
mutual
theorem dp_same {H H' : Hp} (s : Same H H') : ∀ {v : V} {d : PyData}, Dp K H v d → Dp K H' v d
  | _, _, .non => .non
  | _, _, .bl b => .bl b
  | _, _, .int i => .int i
  | _, _, .str x => .str x
  | _, _, .lst a b => .lst (sqL_same s a) (dpAll_same s b)
  | _, _, .tup a b => .tup (sqT_same s a) (dpAll_same s b)
theorem dpAll_same {H H' : Hp} (s : Same H H') : ∀ {vs : List V} {ds : List PyData}, DpAll K H vs ds → DpAll K H' vs ds
  | _, _, .nil => .nil
  | _, _, .cons a b => .cons (dp_same s a) (dpAll_same s b)
end
theorem dpX_same {v : V} {d : PyData} (s : Same H H') (h : DpX K H v d) : DpX K H' v d := by
  rcases h with ⟨h, n⟩ | ⟨a, ns, e, h, e2⟩
  · exact .inl ⟨dp_same s h, n⟩
  · exact .inr ⟨a, ns, e, s _ _ h, e2⟩
theorem ki_same {v : V} {t : String} (s : Same H H') (h : Ki K H v t) : Ki K H' v t := ⟨tyX_same s h.1, h.2⟩
theorem noFr_same {v : V} (s : Same H H') (h : NoFr K H v) : NoFr K H' v := by
  cases h with
  | kind k n => exact .kind (ki_same s k) n
  | many S n => exact .many (sqT_same s S) n
  | top S k n => exact .top (sqT_same s S) (ki_same s k) n
  | bot S k n => exact .bot (sqT_same s S) (ki_same s k) n
  | low S n => exact .low (sqT_same s S) n
end
/-! ### small data: their texts -/
structure SmAll (n m : Nat) (ds : List PyData) : Prop where
  sh : PyData.showableAll ds = true
  lf : PyData.leavesShortAll 1921 ds = true
  bk : PyData.bulkAll ds ≤ n
  dp : PyData.depthAll ds ≤ m
  nd : PyData.hasDictAll ds = false
structure SmI (n m : Nat) (d : PyData) : Prop where
  sh : d.showable = true
  lf : d.leavesShort 1921 = true
  bk : d.bulk ≤ n
  dp : d.depth ≤ m
  nd : d.hasDict = false
theorem SmI.len {n m : Nat} {d : PyData} (h : SmI n m d) (hn : n ≤ 4000) : d.shown.length + 64 ≤ sizeLine := by
  have h1 := PyData.shown_le_bulk 1921 (by decide) d h.lf
  have h3 : (1921 + 2) * 4000 + 1921 + 64 ≤ sizeLine := by decide
  have h4 : (1921 + 2) * d.bulk ≤ (1921 + 2) * 4000 := Nat.mul_le_mul (Nat.le_refl _) (Nat.le_trans h.bk hn)
  omega
theorem sm_int {x : Int} (h : ShI x) : SmI 1 0 (.int x) := ⟨by simp only [PyData.showable]; exact decide_eq_true (shI_log h), leaf_int h, by simp [PyData.bulk], by simp [PyData.depth], by simp [PyData.hasDict]⟩
theorem sm_non : SmI 1 0 .none := ⟨by simp [PyData.showable], by simp [PyData.leavesShort], by simp [PyData.bulk], by simp [PyData.depth], by simp [PyData.hasDict]⟩
theorem sm_bl (b : Bool) : SmI 1 0 (.bool b) := ⟨by simp [PyData.showable], by cases b <;> decide +kernel, by simp [PyData.bulk], by simp [PyData.depth], by simp [PyData.hasDict]⟩
theorem smA_nil : SmAll 0 0 [] := ⟨by simp [PyData.showableAll], by simp [PyData.leavesShortAll], by simp [PyData.bulkAll], by simp [PyData.depthAll], by simp [PyData.hasDictAll]⟩
theorem smA_cons {n m k l : Nat} {d : PyData} {ds : List PyData} (h : SmI n m d) (hs : SmAll k l ds) : SmAll (n + k + 1) (max m l) (d :: ds) := by
  refine ⟨?_, ?_, ?_, ?_, ?_⟩
  · simp only [PyData.showableAll, h.sh, hs.sh, Bool.and_self]
  · simp only [PyData.leavesShortAll, h.lf, hs.lf, Bool.and_self]
  · have := h.bk; have := hs.bk; simp only [PyData.bulkAll]; omega
  · have := h.dp; have := hs.dp; simp only [PyData.depthAll]; omega
  · simp only [PyData.hasDictAll, h.nd, hs.nd, Bool.or_self]
theorem sm_tup {n m : Nat} {ds : List PyData} (h : SmAll n m ds) : SmI (n + 1) (m + 1) (.tuple ds) := by
  refine ⟨?_, ?_, ?_, ?_, ?_⟩
  · simp only [PyData.showable]; exact h.sh
  · simp only [PyData.leavesShort]; exact h.lf
  · have := h.bk; simp only [PyData.bulk]; omega
  · have := h.dp; simp only [PyData.depth]; omega
  · simp only [PyData.hasDict]; exact h.nd
theorem sm_lst {n m : Nat} {ds : List PyData} (h : SmAll n m ds) : SmI (n + 1) (m + 1) (.list ds) := by
  refine ⟨?_, ?_, ?_, ?_, ?_⟩
  · simp only [PyData.showable]; exact h.sh
  · simp only [PyData.leavesShort]; exact h.lf
  · have := h.bk; simp only [PyData.bulk]; omega
  · have := h.dp; simp only [PyData.depth]; omega
  · simp only [PyData.hasDict]; exact h.nd
theorem sm_str {x : Str} {n : Nat} (h : PyData.strOk x = true) (l : x.length ≤ n) : SmI n 0 (.str x) := by
  refine ⟨by simp only [PyData.showable], ?_, by simp only [PyData.bulk]; exact l, by simp [PyData.depth], by simp only [PyData.hasDict]⟩
  simp only [PyData.leavesShort]
  rw [List.all_eq_true]
  intro c hc
  unfold PyData.strOk at h
  rw [Array.all_eq_true'] at h
  have := of_decide_eq_true (h c (Array.mem_def.mpr hc))
  exact decide_eq_true (Nat.lt_of_lt_of_le this (by decide))
theorem str_int_len {i : Int} (h : ShI i) : (Str.ofString (toString i)).length ≤ 1921 := shI_text h
/-! ### nearly fractions -/
def OddV (K : PySem.W.Frag) (H : Hp) (v : V) : Prop := NoFr K H v ∧ ∃ d, DpX K H v d ∧ d.showable = true ∧ d.depth ≤ 40 ∧ d.shown.length + 64 ≤ sizeLine
section
variable {K : PySem.W.Frag} {H H' : Hp}
theorem oddV_same {v : V} (s : Same H H') (h : OddV K H v) : OddV K H' v := by
  obtain ⟨n, d, dp, r⟩ := h
  exact ⟨noFr_same s n, d, dpX_same s dp, r⟩
theorem odd_of {v : V} {d : PyData} {n m : Nat} (nf : NoFr K H v) (dp : Dp K H v d) (s : SmI n m d) (hn : n ≤ 4000 := by decide) (hm : m ≤ 9 := by decide) : OddV K H v := by
  have := s.dp
  exact ⟨nf, d, .inl ⟨dp, s.nd⟩, s.sh, by omega, s.len hn⟩
theorem odd_dct {a : Addr} {ns : List (Int × Int)} (h : H a = some (.dK (kvI ns))) (hs : ∀ q ∈ ns, ShI q.1 ∧ ShI q.2) (hl : ns.length ≤ 1) : OddV K H (.ref a) := by
  refine ⟨.kind (ki_dct h) (by decide), dcI ns, .inr ⟨a, ns, rfl, h, rfl⟩, ?_⟩
  match ns, hl, hs with
  | [], _, _ => decide +kernel
  | [(x, y)], _, hs =>
    obtain ⟨h1, h2⟩ := hs (x, y) List.mem_cons_self
    have lf : (dcI [(x, y)]).leavesShort 1921 = true := by
      simp only [dcI, List.map, PyData.leavesShort, PyData.leavesShortKv]
      have e1 := leaf_int h1
      have e2 := leaf_int h2
      simp only [PyData.leavesShort] at e1 e2
      rw [e1, e2]
      rfl
    refine ⟨?_, ?_, ?_⟩
    · simp only [dcI, List.map, PyData.showable, PyData.showableKv]
      rw [decide_eq_true (shI_log h1), decide_eq_true (shI_log h2)]
      rfl
    · simp only [dcI, PyData.depth, PyData.depthKv, List.map]
      decide
    · have h1 := PyData.shown_le_bulk 1921 (by decide) _ lf
      have h2 : (dcI [(x, y)]).bulk = 2 := by simp only [dcI, PyData.bulk, PyData.bulkKv, List.map]
      rw [h2] at h1
      have h3 : (1921 + 2) * 2 + 1921 + 64 ≤ sizeLine := by decide
      omega
end
/-- what is drawn and made so far -/
structure Wk (K : PySem.W.Frag) (x : V) (q : Rat) (b : Addr) (H0 H1 H : Hp) (src : HO) (vs : List V) : Prop where
  sk : Same H1 H
  sb : ∀ y o, H0 y = some o → y ≠ b → H y = some o
  sr : H b = some src
  fx : FrV K H x q
  all : ∀ v ∈ vs, OddV K H v
section
variable {K : PySem.W.Frag} {x : V} {q : Rat} {b : Addr} {H0 H1 H H' : Hp} {src : HO} {vs : List V}
theorem Wk.same (W : Wk K x q b H0 H1 H src vs) (s : Same H H') : Wk K x q b H0 H1 H' src vs :=
  ⟨W.sk.trans s, fun y o e n => s _ _ (W.sb y o e n), s _ _ W.sr, frV_tk W.fx (same_tk s), fun v hv => oddV_same s (W.all v hv)⟩
theorem Wk.new {p : Addr} {o : HO} (W : Wk K x q b H0 H1 H src vs) (hp : H p = none) : Wk K x q b H0 H1 (upd H p o) src vs := W.same (same_new hp)
theorem Wk.put {p : Addr} {o : HO} {v : V} (W : Wk K x q b H0 H1 H src vs) (hp : H p = none) (f : OddV K (upd H p o) v) : Wk K x q b H0 H1 (upd H p o) src (vs ++ [v]) := by
  have W2 := W.new (o := o) hp
  refine ⟨W2.sk, W2.sb, W2.sr, W2.fx, fun u hu => ?_⟩
  rcases List.mem_append.mp hu with hu | hu
  · exact W2.all u hu
  · rw [List.mem_singleton] at hu
    subst hu
    exact f
theorem Wk.add {v : V} (W : Wk K x q b H0 H1 H src vs) (f : OddV K H v) : Wk K x q b H0 H1 H src (vs ++ [v]) := by
  refine ⟨W.sk, W.sb, W.sr, W.fx, fun u hu => ?_⟩
  rcases List.mem_append.mp hu with hu | hu
  · exact W.all u hu
  · rw [List.mem_singleton] at hu
    subst hu
    exact f
theorem Wk.mark (W : Wk K x q b H0 H1 H src vs) : Wk K x q b H0 H H src vs := ⟨Same.refl _, W.sb, W.sr, W.fx, W.all⟩
/-- a tuple of whole numbers only, too long or no fraction -/
theorem odd_ints {p : Addr} {xs : List Int} (h : H p = some (.tup (xs.map V.int))) (nf : NoFr K H (.ref p)) (hs : ∀ i ∈ xs, ShI i) (hl : xs.length ≤ 9) : OddV K H (.ref p) := by
  have sA : ∀ ys : List Int, (∀ i ∈ ys, ShI i) → SmAll (2 * ys.length) 0 (ys.map PyData.int) ∧ DpAll K H (ys.map V.int) (ys.map PyData.int) := by
    intro ys
    induction ys with
    | nil => exact fun _ => ⟨smA_nil, .nil⟩
    | cons y r ih =>
      intro hy
      obtain ⟨i1, i2⟩ := ih fun i hi => hy i (List.mem_cons_of_mem _ hi)
      have := smA_cons (sm_int (hy y List.mem_cons_self)) i1
      refine ⟨⟨this.sh, this.lf, Nat.le_trans this.bk (by simp only [List.length_cons]; omega), Nat.le_trans this.dp (by decide), this.nd⟩, .cons (.int y) i2⟩
  obtain ⟨a1, a2⟩ := sA xs hs
  exact odd_of nf (.tup (sqT_of h) a2) (sm_tup a1) (by omega) (by decide)
end
end Q7
set_option maxRecDepth 100000
set_option maxHeartbeats 4000000
namespace Q7
open PySem PySem.Spec PyProof.Rows L2
/-! ### a caught exception, kept behind its suite -/
/-- an exception of the class at D without an own dict, as a value -/
def ExK (D a : Addr) : HO := .ext fun h => ∃ oe vs, h.get? a = some oe ∧ Zc (.ref D) none oe ∧ oe.data = .fields vs
theorem exK_ok {P : Program} {w : World} {H : Hp} {h : Heap} {D a : Addr} {oe : Obj} {vs : Array Value} (e : h.get? a = some oe) (z : Zc (.ref D) none oe) (d : oe.data = .fields vs) : ObjOk P w H h a (ExK D a) :=
  ⟨⟨oe, vs, e, z, d⟩, ⟨oe, e⟩, fun h1 h2 ⟨oe1, vs1, e1, z1, d1⟩ k => ⟨oe1, vs1, k _ e1, z1, d1⟩⟩
theorem objOk_upd {P : Program} {w : World} {H : Hp} {h : Heap} {a b : Addr} {o : HO} (ha : H a = none) : ∀ (u : HO), ObjOk P w H h b u → ObjOk P w (upd H a o) h b u
  | .lst _, q => q
  | .tup _, q => q
  | .dK _, q => q
  | .dT kvs, q => by
    obtain ⟨x1, x2, xs, pr, r⟩ := q
    refine ⟨x1, x2, xs, pImp (fun p q z => ⟨z.1, ?_, z.2.2⟩) pr, r⟩
    rw [upd_ne (ne_of_none z.2.1 ha)]
    exact z.2.1
  | .set _ _, q => q
  | .ins C dx fs, q => by
    obtain ⟨x1, r⟩ := q
    refine ⟨?_, r⟩
    rw [upd_ne (ne_of_none x1 ha)]
    exact x1
  | .own _, q => q
  | .xd _, q => q
  | .met _ _, q => q
  | .rng _ _, q => q
  | .frz o u, q => ⟨q.1, objOk_upd ha u q.2⟩
  | .tbl _, q => q
  | .ext _, q => q
theorem inv_hold {X : Cx} {pins : List (Addr × Obj)} {σ : L2.St} {H : Hp} {s : Shared} {a : Addr} {o : HO} (J : Inv X pins σ H s) (ha : H a = none) (h0 : X.s_0.heap.get? a = none) (hL : X.env.locals ≠ a) (hc : ∀ x c, List.lookup x X.env.cells = some c → c ≠ a)
    (hp : ∀ p ∈ X.pn ++ pins, p.1 ≠ a) (ob : ObjOk X.prog X.w (upd H a o) s.heap a o) : Inv X pins σ (upd H a o) s := by
  have old : ∀ {b : Addr} {u : HO}, H b = some u → b ≠ a := fun q => ne_of_none q ha
  refine { J with base := { J.base with free := ?_, tups := ?_, frzs := ?_, tbls := ?_ }, free := ?_, freeC := ?_, pin := ?_, hok := ?_ }
  · intro b u e e0 ex
    have : b ≠ a := fun z => by subst z; rw [h0] at e; cases e
    rw [upd_ne this]
    exact J.base.free b u e e0 ex
  · intro b xs e
    have z := J.base.tups b xs e
    rw [upd_ne (old z)]
    exact z
  · intro b u xs e
    have z := J.base.frzs b u xs e
    rw [upd_ne (old z)]
    exact z
  · intro b ps e
    obtain ⟨m, z⟩ := J.base.tbls b ps e
    refine ⟨m, ?_⟩
    rw [upd_ne (old z)]
    exact z
  · rw [upd_ne hL]
    exact J.free
  · intro x c e
    rw [upd_ne (hc x c e)]
    exact J.freeC x c e
  · intro p m
    obtain ⟨p1, p2, p3⟩ := J.pin p m
    refine ⟨p1, ?_, p3⟩
    rw [upd_ne (hp p m)]
    exact p2
  · intro b u e
    by_cases z : b = a
    · subst z
      rw [upd_same] at e
      cases e
      exact ob
    · rw [upd_ne z] at e
      exact objOk_upd ha u (J.hok b u e)
theorem cell_new {h : Heap} {a : Addr} {v : Option Value} (c : h.IsCell a v) (n : h.get? a = none) : False := by
  obtain ⟨o, e, _⟩ := c
  rw [n] at e
  cases e
/-- what is wished of an error that the except takes: behind its suite it is held -/
def wKept (K : PySem.W.Frag) (c : Value) (i : Nat) (ts : Addr → Value → Option Addr → TS) (D : Ends) : WX := fun cls d σ H => PySem.W.exmOne K cls c = some true ∧ ∃ C, cls = .ref C ∧ d = none ∧
  ∀ a, H a = none → ts a cls d { nx := fun σ' H' => D.nx (σ'.set i none) (upd H' a (ExK C a)), rt := fun v H' => D.rt v (upd H' a (ExK C a)), bk := fun σ' H' => D.bk (σ'.set i none) (upd H' a (ExK C a)), ct := fun σ' H' => D.ct (σ'.set i none) (upd H' a (ExK C a)) } (σ.set i (some (.ref a))) H
section
variable {X : Cx} {x n : Str} {c : Value} {i : Nat} {body suite : List Stmt} {b₀ : Stmt} {np pos pos' : Pos} {tb : WX → TS} {ts : Addr → Value → Option Addr → TS}
theorem ps_try_kept (hs : X.stack = X.env :: X.outer) (hf : X.env.frame = some X.env.locals) (hex : X.ex = []) (hN : X.N.Nodup) (hi : X.N[i]? = some n) (hln : X.env.kindOf n = some NameKind.local) (hc : Names X x c)
    (hb : ∀ (W : WX) (pn : List (Addr × Obj)) (xe : Value → Shared → Prop), Takes (X.tr pn xe) W → PassesOwn (model X.prog X.w) X.A X.env xe → PSs (X.tr pn xe) body (tb W))
    (hsu : ∀ (a : Addr) (oe : Obj) (cls : Value) (d : Option Addr) (pn : List (Addr × Obj)), Zc cls d oe → (∃ vs, oe.data = Data.fields vs) → PSs (X.suite a ((a, oe) :: pn)) (b₀ :: suite) (ts a cls d)) :
    PS X (.Try body [.ExceptHandler (some (.Name x np)) (some n) (b₀ :: suite) pos'] [] [] pos) (fun D σ H => tb (wKept X.K c i ts D) D σ H) := by
  refine ⟨fun pins s σ H D I h => ?_⟩
  have ok := I.ok
  have hfr : X.A.frames = some (X.env :: X.outer) := by rw [ok.frames, hs]
  refine wpAny_Try_except (wpAny_mono ((hb (wKept X.K c i ts D) (X.pn ++ pins) (fun e s₁ => wpAny (model X.prog X.w) X.A (noteFrame e X.env) (fun _ s₂ => wpAny (model X.prog X.w) X.A (setFlight e none)
    (fun _ s₃ => wpAny (model X.prog X.w) X.A (handleBy e X.env [.ExceptHandler (some (.Name x np)) (some n) (b₀ :: suite) pos']) (SP X pins D) X.xe s₃) X.xe s₂) X.xe s₁) (fun u s' xx => ?_) PassesOwn.looking).run [] s σ H D (I.toTry _) h) (fun f s1 hsp => ?_) (fun e s1 he => he))
  · obtain ⟨a, B, sI, pins', σ', H', cls, d, rfl, J', nb, up, sky, na, os, ag, hb1, C, rfl, rfl, hyes⟩ := xx
    have J := Inv.ofTry J' ok
    have sky' : Sky B (X.env :: X.outer) a (Zc (.ref C) none) X.env.locals s'.heap := by rw [← hs]; exact sky
    refine Sky.land Zc.steady hfr hf sky' fun h3 fl3 up3 => ?_
    have J3 : Inv X pins σ' H' ⟨h3, s'.gens, s'.drawn, s'.toks, s'.os⟩ := J.landed nb fl3.1 (up.trans up3) os ag
    obtain ⟨oe3, vs3, he3, hz3, hd3⟩ := fl3.there
    have nfr : ¬ a ∈ frs (X.env :: X.outer) := fun hm => by
      obtain ⟨_, o', e', hnf⟩ := Heap.FunFrames.mem fl3.2.2.1 hm
      rw [he3] at e'
      cases e'
      exact hnf vs3 hd3
    have nL : a ≠ X.env.locals := fun z => nfr (List.mem_filterMap.mpr ⟨X.env, List.mem_cons_self, by rw [hf, z]⟩)
    have nF : ¬ a ∈ X.fs := fun hm => by
      obtain ⟨e, he, q⟩ := List.mem_filterMap.mp hm
      exact nfr (List.mem_filterMap.mpr ⟨e, List.mem_cons_of_mem _ he, q⟩)
    have newI : sI.heap.get? a = none := by
      cases e : sI.heap.get? a with
      | none => rfl
      | some o =>
        have z := nb a o e (by rw [hs]; exact nfr)
        rw [fl3.2.1] at z
        cases z
    have new0 : X.s_0.heap.get? a = none := by
      cases e : X.s_0.heap.get? a with
      | none => rfl
      | some o =>
        obtain ⟨o', z⟩ := J.base.there a o e (by rw [hex]; exact List.not_mem_nil)
        rw [newI] at z
        cases z
    have nC : ∀ x c, List.lookup x X.env.cells = some c → c ≠ a := fun x c e z => by
      obtain ⟨v, hv⟩ := J.cell x c e
      subst z
      exact cell_new hv newI
    have nP : ∀ p ∈ X.pn ++ pins, p.1 ≠ a := fun p m z => by
      obtain ⟨p1, _⟩ := J.pin p m
      rw [z, newI] at p1
      cases p1
    have S3 := J3.suite he3 hd3 na nL nF
    refine wpAny_handleBy_cons (codeAny_handlers_test ?_) (fun q => by cases q)
    have LM : PySem.W.Looks (model X.prog X.w) h3 (excMatches (.ref a) c) true := PySem.W.exm_one J3.kIn (fun A Q E s k q => wpAny_typeOf_ref (k a oe3 he3) (by rw [hz3.1]; exact q)) hb1
    have test : ∀ {Q : Value → Shared → Prop} {E : Value → Shared → Prop}, Q c ⟨h3, s'.gens, s'.drawn, s'.toks, s'.os⟩ → wpAny (model X.prog X.w) (X.A.mark (some (.ref a))) (eval (.Name x np) X.env) Q E ⟨h3, s'.gens, s'.drawn, s'.toks, s'.os⟩ := fun {Q E} q => by
      obtain ⟨hg, hd, hm | ⟨hm, hv, hnn⟩⟩ := hc
      · exact ld_glob S3 hg hm q hd
      · exact ld_blt S3 hg hm hv q hnn hd
    refine test (PySem.W.Looks.here LM ?_)
    refine codeAny_handlers_suite_as (HandSPX.lands_againZ fl3 fun h4 fl4 up4 => ?_)
    have J4 : Inv X pins σ' H' ⟨h4, s'.gens, s'.drawn, s'.toks, s'.os⟩ := J.landed nb fl4.1 ((up.trans up3).trans up4) os ag
    obtain ⟨oe4, vs4, he4, hz4, hd4⟩ := fl4.there
    have S4 := J4.suite he4 hd4 na nL nF
    refine store_ok (X := X.suite a ((a, oe4) :: (X.pn ++ pins))) (v := .ref a) S4 hN hi (.inl hln) rfl (fun s5 S5 => ?_) (.inr hln)
    refine wpAny_mono ((hsu a oe4 (.ref C) none (X.pn ++ pins) hz4 ⟨vs4, hd4⟩).run [] s5 _ H' _ S5 (hyes a na)) (fun f s6 hsp => ?_) (fun _ _ z => z.elim)
    have end_ : ∀ {σ6 : L2.St} {H6 : Hp} {Q : Unit → Shared → Prop}, Inv (X.suite a ((a, oe4) :: (X.pn ++ pins))) [] σ6 H6 s6 → (∀ s7, Inv X pins (σ6.set i none) (upd H6 a (ExK C a)) s7 → Q () s7) →
        wpAny (model X.prog X.w) X.A (do bindName X.env n Value.none; unbindBehindTheSuite X.env n pos') Q X.xe s6 := fun {σ6 H6 Q} S6 hq => by
      obtain ⟨g1, g2, _⟩ := S6.pin (a, oe4) (List.mem_append_left _ List.mem_cons_self)
      exact gone_ok (inv_hold (S6.unsuite ok) g2 new0 (Ne.symm nL) nC nP (exK_ok g1 hz4 hd4)) hN hi hln hq
    cases f with
    | next =>
      obtain ⟨σ6, H6, S6, q6⟩ := hsp
      exact end_ S6 fun s7 J7 => ⟨_, _, J7, q6⟩
    | brk =>
      obtain ⟨σ6, H6, S6, q6⟩ := hsp
      exact end_ S6 fun s7 J7 => ⟨_, _, J7, q6⟩
    | cont =>
      obtain ⟨σ6, H6, S6, q6⟩ := hsp
      exact end_ S6 fun s7 J7 => ⟨_, _, J7, q6⟩
    | ret u =>
      obtain ⟨v6, σ6, H6, S6, r6, q6⟩ := hsp
      exact end_ S6 fun s7 J7 => ⟨v6, _, _, J7, r6, q6⟩
  · cases f with
    | next =>
      obtain ⟨σ', H', J', q⟩ := hsp
      exact wpAny_execs_nil ⟨σ', H', J'.ofTry ok, q⟩
    | brk =>
      obtain ⟨σ', H', J', q⟩ := hsp
      exact ⟨σ', H', J'.ofTry ok, q⟩
    | cont =>
      obtain ⟨σ', H', J', q⟩ := hsp
      exact ⟨σ', H', J'.ofTry ok, q⟩
    | ret u =>
      obtain ⟨v, σ', H', J', q⟩ := hsp
      exact ⟨v, σ', H', J'.ofTry ok, q⟩
end
/-! ### isinstance of a held exception -/
def rIsK (K : PySem.W.Frag) : List V → Hp → VK → Prop := fun xs H Q => ∃ (a D : Addr) (c : V) (u : Value) (b : Bool), xs = [.ref a, c] ∧ H a = some (ExK D a) ∧ ExcC K D ∧ ClsV c u ∧ PySem.W.kitOne K (.ref D) u = some b ∧ Q (.bl b) H
def rIsKT (K : PySem.W.Frag) : List V → Hp → VK → Prop := fun xs H Q => ∃ (a D : Addr) (tp : Addr) (cs : List V) (us : List Value) (b : Bool), xs = [.ref a, .ref tp] ∧ H a = some (ExK D a) ∧ ExcC K D ∧ H tp = some (.tup cs) ∧ Paired ClsV cs us ∧ PySem.W.kitAny K (.ref D) us = some b ∧ Q (.bl b) H
theorem inst_k {X : Cx} {pins : List (Addr × Obj)} {σ : L2.St} {H : Hp} {s : Shared} {a D : Addr} (I : Inv X pins σ H s) (ha : H a = some (ExK D a)) : ∃ oe, PySem.W.InstAt s.heap a oe D none := by
  obtain ⟨⟨oe, vs, e, z, d⟩, _⟩ := I.hok a _ ha
  exact ⟨oe, e, z.1, by unfold PySem.W.notCls; rw [d] <;> rfl, by rw [z.2]; trivial⟩
theorem call_isK {X : Cx} : CallR X (.builtin "isinstance") (rIsK X.K) := by
  intro pins s σ H as us Q I r h
  obtain ⟨a, D, c, u, b, rfl, ha, C, k, e, q⟩ := h
  obtain ⟨u1, u2, rfl, r1, r2⟩ := L2.vals2 r
  obtain rfl : u1 = Value.ref a := r1
  have e2 := ClsV.eq k r2
  subst e2
  obtain ⟨oe, J⟩ := inst_k I ha
  exact PySem.W.kia_one (PySem.W.handS_kitx_exc C.hg C.hk C.hs C.hd C.ha C.hn C.ht C.hm) I.kIn J e (fun z => nomatch z) fun tk => ⟨.bl b, H, I.tok tk, rfl, q⟩
theorem call_isKT {X : Cx} : CallR X (.builtin "isinstance") (rIsKT X.K) := by
  intro pins s σ H as us Q I r h
  obtain ⟨a, D, tp, cs, ws, b, rfl, ha, C, hT, k, e, q⟩ := h
  obtain ⟨u1, u2, rfl, r1, r2⟩ := L2.vals2 r
  obtain rfl : u1 = Value.ref a := r1
  obtain rfl : u2 = Value.ref tp := r2
  obtain ⟨oe, J⟩ := inst_k I ha
  obtain ⟨_, its, rv, o, h1, h2, n, h3⟩ := I.hok tp _ hT
  have e3 := ClsV.all k rv
  subst e3
  obtain ⟨oc, od, dt, sl⟩ := o
  cases h2
  cases h3
  exact PySem.W.kia_tup (PySem.W.handS_kitx_exc C.hg C.hk C.hs C.hd C.ha C.hn C.ht C.hm) I.kIn J h1 e (fun z => nomatch z) fun tk => ⟨.bl b, H, I.tok tk, rfl, q⟩
/-! ### two promises of one def; a call by names alone within a try -/
theorem fnOk_or {P : Program} {w : World} {K : PySem.W.Frag} {mg : Str → Option Value} {base : Heap} {CX : CXT} {k : Nat} {f : Addr} {fd : FuncData} {ps : List Str} {sp sq : Sp} (F : FnOk P w K mg base CX k f fd ps sp) (G : FnOk P w K mg base CX k f fd ps sq) :
    FnOk P w K mg base CX k f fd ps (fun vs H Q E => sp vs H Q E ∨ sq vs H Q E) :=
  ⟨fun vs H Q E h => h.elim (F.len vs H Q E) (G.len vs H Q E), fun A outer s H args us vs Q E r e b v h => h.elim (F.run A outer s H args us vs Q E r e b v) (G.run A outer s H args us vs Q E r e b v)⟩
section
variable {X : Cx} {CX : CXT} {k : Nat} {f : Addr} {fd : FuncData} {ps ks : List Str} {sp : Sp} {E : L2.St → XK} {x : Str} {p pos : Pos} {kws : List Keyword} {tk : TA} {g : List Value → List Value → List Value} {gV : List V → List V → List V}
theorem run_fnNS {n : Nat} {pins : List (Addr × Obj)} {σ : L2.St} {H : Hp} {s : Shared} {Q : VK} {us ws : List Value} {vs zs : List V} (F : FnOk X.prog X.w X.K X.mg X.base CX k f fd ps sp) (room : Room k X.A) (bnd : KBn X.K fd ps n ks g gV) (pass : PassesAt CX X σ (E σ)) (I : Inv X pins σ H s)
    (rv : Vals vs us) (rz : Vals zs ws) (l1 : vs.length = n) (l2 : zs.length = ks.length) (prom : sp (gV vs zs) H Q (E σ)) : wpAny (model X.prog X.w) X.A (call (.ref f) us (ks.zip ws)) (EP X pins σ Q) X.xe s := by
  refine wpAny_call (codeAny_mono (F.run X.A X.stack s H ⟨us, ks.zip ws⟩ (g us ws) (gV vs zs) Q (E σ) room I.env0 (bnd.to s us ws I.kIn (by rw [← rv.length]; exact l1) (by rw [← rz.length]; exact l2)) (bnd.rel rv rz) prom) fun res s' hq => ?_)
  match res, hq with
  | .error e, q => exact pass pins H s e s' I q
  | .ok (.ret _), q => exact I.after q
  | .ok .next, q => exact False.elim q
  | .ok .brk, q => exact False.elim q
  | .ok .cont, q => exact False.elim q
def tCallNS (n m : Nat) (sp : Sp) (gV : List V → List V → List V) (E : L2.St → XK) (t tk : TA) : TE := fun σ H Q => t σ H fun vs H1 => tk σ H1 fun zs H2 => vs.length = n ∧ zs.length = m ∧ sp (gV vs zs) H2 Q (E σ)
theorem pe_callKS (F : FnOk X.prog X.w X.K X.mg X.base CX k f fd ps sp) (room : Room k X.A) (gl : Gl X x) (here : X.mg x = some (.ref f)) (kp : PySem.W.keepIn X.K (.ref f) = true) (bnd : KBn X.K fd ps 0 ks g gV) (pass : ∀ σ, PassesAt CX X σ (E σ)) (args : PK X kws tk)
    (named : (backToKw pos (keywordEach kws X.env)).all (·.1.isSome) = true := by rfl) (names : (backToKw pos (keywordEach kws X.env)).filterMap (·.1) = ks := by rfl) (nd : (x == ("__debug__" : Str)) = false := by decide)
    (plain : ((backTo pos (starEach [] X.env)).any (·.1) || (backToKw pos (keywordEach kws X.env)).any (·.1.isNone)) = false := by rfl) : PE X (.Call (.Name x p) [] kws pos) (tCallNS 0 ks.length sp gV E tNil tk) := by
  constructor
  intro pins s σ H Q I h
  refine wpAny_Call_Name_kw (ld_glob I gl here (PySem.W.callWith_KW0 (h₀ := X.base) I.ok.mod.kin kp named (thn (args.run pos pins s σ H _ I h) fun us s2 z => ?_) plain) nd)
  obtain ⟨zs, H2, I2, rz, l1, l2, q⟩ := z
  refine ⟨I2.kIn, ?_⟩
  rw [names]
  exact run_fnNS (us := []) (vs := []) F room bnd (pass σ) I2 .nil rz rfl l2 q
end
/-- what the written part says of an error class -/
def tExcC (K : PySem.W.Frag) (D : Addr) : Bool :=
  (He.eqO (PySem.W.findIn K (.ref D) "__getattribute__") (some (some (.builtin "BaseException.__getattribute__"))) && (He.eqO (PySem.W.findIn K (.ref D) "__getattr__") (some none) && (decide (PySem.W.subIn K (.ref D) (.type "BaseException") = some true) && PySem.W.hasDictIn K D))) &&
  (He.eqO (PySem.W.findIn K (.ref D) "__class__") (some (some (.builtin "object.__class__"))) && (He.eqO (PySem.W.specialIn K (.builtin "object.__class__") "__get__") (some (some (.builtin "getset_descriptor.__get__"))) && (decide (PySem.W.takesIn K (.builtin "object.__class__") = some true) && decide (PySem.W.mroIn K D (.type "object") = some true))))
theorem tExcC_ok {K : PySem.W.Frag} {D : Addr} (h : tExcC K D = true) : ExcC K D := by
  unfold tExcC at h
  obtain ⟨h, g⟩ := He.ba h
  obtain ⟨h1, h⟩ := He.ba h
  obtain ⟨h2, h⟩ := He.ba h
  obtain ⟨h3, h4⟩ := He.ba h
  obtain ⟨g1, g⟩ := He.ba g
  obtain ⟨g2, g⟩ := He.ba g
  obtain ⟨g3, g4⟩ := He.ba g
  exact ⟨He.eqO_ok h1, He.eqO_ok h2, of_decide_eq_true h3, h4, He.eqO_ok g1, He.eqO_ok g2, of_decide_eq_true g3, of_decide_eq_true g4⟩
theorem fnOk_lift {P : Program} {w : World} {K : PySem.W.Frag} {mg : Str → Option Value} {base : Heap} {CX : CXT} {k : Nat} {f : Addr} {fd : FuncData} {ps : List Str} {sp : Sp} (F : FnOk P w K mg base CX0 k f fd ps sp) : FnOk P w K mg base CX k f fd ps sp :=
  ⟨F.len, fun A outer s H args us vs Q E r e b v h => codeAny_mono (F.run A outer s H args us vs Q E r e b v h) fun res s' hq => match res, hq with
    | .error _, q => False.elim q
    | .ok (.ret _), q => q
    | .ok .next, q => False.elim q
    | .ok .brk, q => False.elim q
    | .ok .cont, q => False.elim q⟩
end Q7
set_option maxRecDepth 100000
set_option maxHeartbeats 4000000
namespace Q7
open PySem PySem.Spec PyProof.Rows L2
/-! ### data with dicts within tuples and lists: their texts -/
section
variable (K : PySem.W.Frag) (H : Hp)
mutual
inductive DpZ : V → PyData → Prop
  | non : DpZ .non .none
  | bl (b : Bool) : DpZ (.bl b) (.bool b)
  | int (i : Int) : DpZ (.int i) (.int i)
  | str (x : Str) : DpZ (.str x) (.str x)
  | lst {a : Addr} {xs : List V} {ds : List PyData} : H a = some (.lst xs) → a ≠ sysModules → DpZs xs ds → DpZ (.ref a) (.list ds)
  | tup {a : Addr} {xs : List V} {ds : List PyData} : SqT K H a xs → DpZs xs ds → DpZ (.ref a) (.tuple ds)
  | dct {a : Addr} {ns : List (Int × Int)} : H a = some (.dK (kvI ns)) → DpZ (.ref a) (dcI ns)
inductive DpZs : List V → List PyData → Prop
  | nil : DpZs [] []
  | cons {v : V} {vs : List V} {d : PyData} {ds : List PyData} : DpZ v d → DpZs vs ds → DpZs (v :: vs) (d :: ds)
end
end
section
variable {K : PySem.W.Frag} {H H' : Hp}
mutual
theorem dpZ_same (s : Same H H') : ∀ {v : V} {d : PyData}, DpZ K H v d → DpZ K H' v d
  | _, _, .non => .non
  | _, _, .bl b => .bl b
  | _, _, .int i => .int i
  | _, _, .str x => .str x
  | _, _, .lst a n b => .lst (s _ _ a) n (dpZs_same s b)
  | _, _, .tup a b => .tup (sqT_same s a) (dpZs_same s b)
  | _, _, .dct a => .dct (s _ _ a)
theorem dpZs_same (s : Same H H') : ∀ {vs : List V} {ds : List PyData}, DpZs K H vs ds → DpZs K H' vs ds
  | _, _, .nil => .nil
  | _, _, .cons a b => .cons (dpZ_same s a) (dpZs_same s b)
end
theorem dpZ_fr {v : V} {q : Rat} (h : FrV K H v q) : DpZ K H v (fr q) := by
  obtain ⟨p, rfl, s⟩ := h
  exact .tup s (.cons (.int _) (.cons (.int _) .nil))
end
section
variable {X : Cx} {pins : List (Addr × Obj)} {σ : L2.St} {H : Hp} {s : Shared}
theorem objTup {a : Addr} {xs : List V} {h : Heap} {P : Program} {w : World} : ∀ (u : HO), u = .tup xs → ObjOk P w H h a u → ∃ its o n, Vals xs its ∧ h.get? a = some o ∧ o.cls = .type "tuple" ∧ o.data = .seq its.toArray n := fun u e h => by
  subst e
  obtain ⟨_, its, r, o, g, c, n, d⟩ := h
  exact ⟨its, o, n, r, g, c, d⟩
theorem sqT_obj (I : Inv X pins σ H s) {a : Addr} {xs : List V} (h : SqT X.K H a xs) : ∃ (o : Obj) (us : Array Value) (n : Nat), s.heap.get? a = some o ∧ o.cls = .type "tuple" ∧ o.data = .seq us n ∧ Vals xs us.toList := by
  rcases h with (h | ⟨o, h⟩) | ⟨o, us, n, h, hc, hd, _, r⟩
  · obtain ⟨its, o, n, r, g, c, d⟩ := objTup _ rfl (I.hok a _ h)
    exact ⟨o, its.toArray, n, g, c, d, by simpa using r⟩
  · obtain ⟨_, z⟩ := I.hok a _ h
    obtain ⟨its, o, n, r, g, c, d⟩ := objTup (P := X.prog) (w := X.w) (H := H) (h := s.heap) _ rfl z
    exact ⟨o, its.toArray, n, g, c, d, by simpa using r⟩
  · exact ⟨o, us, n, I.kIn a o h, hc, hd, r⟩
mutual
theorem dpZ_reads (I : Inv X pins σ H s) : ∀ {v : V} {d : PyData} {u : Value}, DpZ X.K H v d → RelV v u → ∃ as, Reads s.heap u d as ∧ sysModules ∉ as
  | _, _, _, .non, r => by cases r; exact ⟨[], .none, List.not_mem_nil⟩
  | _, _, _, .bl b, r => by cases r; exact ⟨[], .bool b, List.not_mem_nil⟩
  | _, _, _, .int i, r => by obtain ⟨t, rfl⟩ := r; exact ⟨[], .int i t, List.not_mem_nil⟩
  | _, _, _, .str x, r => by obtain ⟨t, rfl⟩ := r; exact ⟨[], .str x t, List.not_mem_nil⟩
  | _, _, _, .lst (a := a) h n ds, r => by
    cases r
    obtain ⟨_, its, m, rv, g⟩ := I.hok a _ h
    obtain ⟨as, q, hn⟩ := dpZs_reads I ds rv
    refine ⟨a :: as, .list g rfl rfl (by simpa using q), ?_⟩
    intro z
    rcases List.mem_cons.mp z with z | z
    · exact n z.symm
    · exact hn z
  | _, _, _, .tup h ds, r => by
    cases r
    obtain ⟨o, us, n, g, c, d, rv⟩ := sqT_obj I h
    obtain ⟨as, q, hn⟩ := dpZs_reads I ds rv
    exact ⟨as, .tuple g c d q, hn⟩
  | _, _, _, .dct (a := a) (ns := ns) h, r => by
    cases r
    obtain ⟨_, nsys, vs, kv, o, es, ep, h1, h2, h3, _, prs, _⟩ := (show ObjOk X.prog X.w H s.heap a (.dK (kvI ns)) from I.hok a _ h)
    obtain ⟨k1, k2⟩ := readsI (h := s.heap) (fun _ _ => rfl) ns kv prs
    refine ⟨_, Reads.dict h1 h2.1 h3 (by rw [List.map_map]; exact k1) (by rw [List.map_map]; exact k2), fun m => ?_⟩
    simp only [List.append_nil, List.mem_cons, List.not_mem_nil, or_false] at m
    rw [← m] at nsys
    simp at nsys
theorem dpZs_reads (I : Inv X pins σ H s) : ∀ {vs : List V} {ds : List PyData} {us : List Value}, DpZs X.K H vs ds → Vals vs us → ∃ as, ReadsAll s.heap us ds as ∧ sysModules ∉ as
  | _, _, _, .nil, r => by cases r; exact ⟨[], .nil, List.not_mem_nil⟩
  | _, _, _, .cons a b, r => by
    cases r with
    | cons r1 r2 =>
      obtain ⟨as, q1, n1⟩ := dpZ_reads I a r1
      obtain ⟨bs, q2, n2⟩ := dpZs_reads I b r2
      exact ⟨_, .cons q1 q2, fun z => (List.mem_append.mp z).elim n1 n2⟩
end
end
def rReprZ (K : PySem.W.Frag) : List V → Hp → VK → Prop := fun as H Q => ∃ v d, as = [v] ∧ DpZ K H v d ∧ d.showable = true ∧ d.depth ≤ 40 ∧ d.shown.length + 64 ≤ sizeLine ∧ Q (.str d.shown) H
theorem call_reprZ {X : Cx} (g : X.A.guards = some []) (hu : X.A.units + 70 < cLine) : CallR X (.builtin "repr") (rReprZ X.K) := by
  intro pins s σ H as us Q I r h
  obtain ⟨v, d, rfl, dp, sh, dep, sz, q⟩ := h
  obtain ⟨u, rfl, rel⟩ := vals1 r
  obtain ⟨bs, rd, hsm⟩ := dpZ_reads I dp rel
  cases rd with
  | none => exact PySem.P.repr_of_none ⟨.str _, H, I.tok _, ⟨_, rfl⟩, q⟩
  | bool b => exact PySem.P.repr_of_bool ⟨.str _, H, I.tok _, ⟨_, rfl⟩, q⟩
  | int i t => exact PySem.P.repr_of_int (of_decide_eq_true sh) ⟨.str _, H, I.tok _, ⟨_, rfl⟩, q⟩
  | str x t => exact PySem.P.repr_of_str ⟨.str _, H, I.tok _, ⟨_, rfl⟩, q⟩ (by have : (reprText x).length + 64 ≤ sizeLine := sz; omega)
  | list a1 a2 a3 a4 => exact repr_of_reads' (.list a1 a2 a3 a4) sh (fun _ => hsm) g (by omega) (fun _ _ z => z) (fun h' u tk kp => ⟨.str _, H, I.kept (t' := tk) kp, ⟨_, rfl⟩, q⟩) (by omega)
  | tuple a1 a2 a3 a4 => exact repr_of_reads' (.tuple a1 a2 a3 a4) sh (fun _ => hsm) g (by omega) (fun _ _ z => z) (fun h' u tk kp => ⟨.str _, H, I.kept (t' := tk) kp, ⟨_, rfl⟩, q⟩) (by omega)
  | dict a1 a2 a3 a4 a5 => exact repr_of_reads' (.dict a1 a2 a3 a4 a5) sh (fun _ => hsm) g (by omega) (fun _ _ z => z) (fun h' u tk kp => ⟨.str _, H, I.kept (t' := tk) kp, ⟨_, rfl⟩, q⟩) (by omega)
/-- a new list is not the modules' dict -/
def tLstS (t : TA) : TE := fun σ H Q => t σ H fun xs H1 => xs.length ≤ sizeLine ∧ ∀ p, H1 p = none → p ≠ sysModules → Q (.ref p) (upd H1 p (.lst xs))
theorem pe_lstS {X : Cx} {es : List Expr} {t : TA} {pos : Pos} (h : PA X es t) : PE X (.List es pos) (tLstS t) := by
  refine ⟨fun pins s σ H Q I hq => wpAny_List_spliced (thn (h.run pos pins s σ H _ I hq) fun us s1 z => ?_)⟩
  obtain ⟨xs, H1, I1, r, l, q⟩ := z
  refine ⟨by rw [← r.length]; exact l, ?_⟩
  exact ⟨.ref s1.heap.objs.size, upd H1 s1.heap.objs.size (.lst xs), I1.laid (o := .lst xs) (fun b u e => Heap.get?_push_of_some _ e) (Nat.le_refl _) ⟨l, us, 0, r, Heap.get?_push_size s1.heap rfl⟩, rfl, q _ (I1.hok.fresh (Nat.le_refl _)) (Nat.ne_of_gt I1.big)⟩
/-! ### nearly fractions, as data -/
structure SmX (n m : Nat) (d : PyData) : Prop where
  sh : d.showable = true
  lf : d.leavesShort 1921 = true
  bk : d.bulk ≤ n
  dp : d.depth ≤ m
theorem SmX.len {n m : Nat} {d : PyData} (h : SmX n m d) (hn : n ≤ 8000) : d.shown.length + 64 ≤ sizeLine := by
  have h1 := PyData.shown_le_bulk 1921 (by decide) d h.lf
  have h3 : (1921 + 2) * 8000 + 1921 + 64 ≤ sizeLine := by decide
  have h4 : (1921 + 2) * d.bulk ≤ (1921 + 2) * 8000 := Nat.mul_le_mul (Nat.le_refl _) (Nat.le_trans h.bk hn)
  omega
theorem SmI.x {n m : Nat} {d : PyData} (h : SmI n m d) : SmX n m d := ⟨h.sh, h.lf, h.bk, h.dp⟩
theorem smX_nil : SmX 4 1 (dcI []) := ⟨by decide +kernel, by decide +kernel, by decide +kernel, by decide +kernel⟩
theorem smX_pair {n m k l : Nat} {d e : PyData} (h : SmX n m d) (hs : SmX k l e) : SmX (n + k + 3) (max m l + 1) (.tuple [d, e]) := by
  refine ⟨?_, ?_, ?_, ?_⟩
  · simp only [PyData.showable, PyData.showableAll, h.sh, hs.sh, Bool.and_self]
  · simp only [PyData.leavesShort, PyData.leavesShortAll, h.lf, hs.lf, Bool.and_self]
  · have := h.bk; have := hs.bk; simp only [PyData.bulk, PyData.bulkAll]; omega
  · have := h.dp; have := hs.dp; simp only [PyData.depth, PyData.depthAll]; omega
def OddZ (K : PySem.W.Frag) (H : Hp) (v : V) : Prop := NoFr K H v ∧ ∃ d, DpZ K H v d ∧ SmX 3000 9 d
section
variable {K : PySem.W.Frag} {H H' : Hp}
theorem oddZ_same {v : V} (s : Same H H') (h : OddZ K H v) : OddZ K H' v := by
  obtain ⟨n, d, dp, r⟩ := h
  exact ⟨noFr_same s n, d, dpZ_same s dp, r⟩
theorem oddZ_of {v : V} {d : PyData} {n m : Nat} (nf : NoFr K H v) (dp : DpZ K H v d) (s : SmI n m d) (hn : n ≤ 3000 := by decide) (hm : m ≤ 9 := by decide) : OddZ K H v :=
  ⟨nf, d, dp, s.sh, s.lf, Nat.le_trans s.bk hn, Nat.le_trans s.dp hm⟩
theorem oddZ_dct {a : Addr} (h : H a = some (.dK (kvI []))) : OddZ K H (.ref a) := ⟨.kind (ki_dct h) (by decide), dcI [], .dct h, smX_nil.sh, smX_nil.lf, Nat.le_trans smX_nil.bk (by decide), Nat.le_trans smX_nil.dp (by decide)⟩
end
/-- what is drawn and made so far: the values stand in a part of the heap that the source is no part of -/
structure Wz (K : PySem.W.Frag) (x : V) (q : Rat) (b : Addr) (H0 H1 H : Hp) (src : HO) (vs : List V) : Prop where
  sk : Same H1 H
  sb : ∀ y o, H0 y = some o → y ≠ b → H y = some o
  sr : H b = some src
  gh : ∃ G : Hp, Same G H ∧ G b = none ∧ FrV K G x q ∧ ∀ v ∈ vs, OddZ K G v
section
variable {K : PySem.W.Frag} {x : V} {q : Rat} {b : Addr} {H0 H1 H H' : Hp} {src : HO} {vs : List V}
theorem Wz.start {ys : List V} (hs : H b = some (.lst ys)) (fx : FrV K H x q) (hu : H0 = H) : Wz K x q b H0 H H (.lst ys) [] := by
  subst hu
  refine ⟨Same.refl _, fun y o e _ => e, hs, fun y => if y = b then none else H0 y, fun y o e => ?_, by simp, ?_, fun v hv => by cases hv⟩
  · by_cases z : y = b
    · simp [z] at e
    · simpa [z] using e
  · obtain ⟨p, rfl, S⟩ := fx
    refine ⟨p, rfl, ?_⟩
    rcases S with (S | ⟨o, S⟩) | S
    · have z : p ≠ b := fun e => by subst e; rw [hs] at S; cases S
      exact .inl (.inl (by simp [z, S]))
    · have z : p ≠ b := fun e => by subst e; rw [hs] at S; cases S
      exact .inl (.inr ⟨o, by simp [z, S]⟩)
    · exact .inr S
theorem Wz.fx (W : Wz K x q b H0 H1 H src vs) : FrV K H x q := by
  obtain ⟨G, s, _, f, _⟩ := W.gh
  exact frV_tk f (same_tk s)
theorem Wz.same (W : Wz K x q b H0 H1 H src vs) (s : Same H H') : Wz K x q b H0 H1 H' src vs := by
  obtain ⟨G, sg, g0, f, a⟩ := W.gh
  exact ⟨W.sk.trans s, fun y o e n => s _ _ (W.sb y o e n), s _ _ W.sr, G, sg.trans s, g0, f, a⟩
theorem Wz.new {p : Addr} {o : HO} (W : Wz K x q b H0 H1 H src vs) (hp : H p = none) : Wz K x q b H0 H1 (upd H p o) src vs := W.same (same_new hp)
theorem Wz.put {p : Addr} {o : HO} {v : V} (W : Wz K x q b H0 H1 H src vs) (hp : H p = none) (f : ∀ G : Hp, G p = none → FrV K G x q → OddZ K (upd G p o) v) : Wz K x q b H0 H1 (upd H p o) src (vs ++ [v]) := by
  obtain ⟨G, sg, g0, fx, a⟩ := W.gh
  have W2 := W.new (o := o) hp
  have gp : G p = none := by
    cases e : G p with
    | none => rfl
    | some u => rw [sg _ _ e] at hp; cases hp
  have pb : b ≠ p := fun e => by subst e; rw [W.sr] at hp; cases hp
  have s1 := same_new (o := o) gp
  refine ⟨W2.sk, W2.sb, W2.sr, upd G p o, fun y u e => ?_, by rw [upd_ne pb]; exact g0, frV_tk fx (same_tk s1), fun u hu => ?_⟩
  · by_cases z : y = p
    · subst z
      rw [upd_same] at e ⊢
      exact e
    · rw [upd_ne z] at e ⊢
      exact sg _ _ e
  · rcases List.mem_append.mp hu with hu | hu
    · exact oddZ_same s1 (a u hu)
    · rw [List.mem_singleton] at hu
      subst hu
      exact f G gp fx
theorem Wz.add {v : V} (W : Wz K x q b H0 H1 H src vs) (f : ∀ G : Hp, OddZ K G v) : Wz K x q b H0 H1 H src (vs ++ [v]) := by
  obtain ⟨G, sg, g0, fx, a⟩ := W.gh
  refine ⟨W.sk, W.sb, W.sr, G, sg, g0, fx, fun u hu => ?_⟩
  rcases List.mem_append.mp hu with hu | hu
  · exact a u hu
  · rw [List.mem_singleton] at hu
    subst hu
    exact f G
theorem Wz.mark (W : Wz K x q b H0 H1 H src vs) : Wz K x q b H0 H H src vs := ⟨Same.refl _, W.sb, W.sr, W.gh⟩
/-- a list that was new since grows -/
theorem Wz.grow {l p : Addr} {o u o2 : HO} {v : V} (W : Wz K x q b H0 H1 H src vs) (hl : H l = none) (hp : upd H l o p = none) (f : ∀ G : Hp, G p = none → FrV K G x q → OddZ K (upd G p u) v) :
    Wz K x q b H0 (upd (upd (upd H l o) p u) l o2) (upd (upd (upd H l o) p u) l o2) src (vs ++ [v]) := by
  obtain ⟨G, sg, g0, fx, a⟩ := W.gh
  have gl : G l = none := by
    cases e : G l with
    | none => rfl
    | some u => rw [sg _ _ e] at hl; cases hl
  have pl : p ≠ l := fun e => by subst e; rw [upd_same] at hp; cases hp
  have hp2 : H p = none := by rwa [upd_ne pl] at hp
  have gp : G p = none := by
    cases e : G p with
    | none => rfl
    | some u => rw [sg _ _ e] at hp2; cases hp2
  have lb : b ≠ l := fun e => by subst e; rw [W.sr] at hl; cases hl
  have pb : b ≠ p := fun e => by subst e; rw [W.sr] at hp2; cases hp2
  have s1 := same_new (o := u) gp
  refine ⟨Same.refl _, fun y o e n => ?_, ?_, upd G p u, fun y w e => ?_, by rw [upd_ne pb]; exact g0, frV_tk fx (same_tk s1), fun w hw => ?_⟩
  · have z := W.sb y o e n
    have yl : y ≠ l := ne_of_none z hl
    have yp : y ≠ p := ne_of_none z hp2
    rw [upd_ne yl, upd_ne yp, upd_ne yl]
    exact z
  · rw [upd_ne lb, upd_ne pb, upd_ne lb]
    exact W.sr
  · by_cases z : y = p
    · subst z
      rw [upd_same] at e
      rw [upd_ne pl, upd_same]
      exact e
    · rw [upd_ne z] at e
      have yl : y ≠ l := fun q => by subst q; rw [gl] at e; cases e
      rw [upd_ne yl, upd_ne z, upd_ne yl]
      exact sg _ _ e
  · rcases List.mem_append.mp hw with hw | hw
    · exact oddZ_same s1 (a w hw)
    · rw [List.mem_singleton] at hw
      subst hw
      exact f G gp fx
/-- the source is drawn from -/
theorem Wz.draw {o : HO} (W : Wz K x q b H0 H1 H src vs) : (∀ v ∈ vs, OddZ K (upd H b o) v) ∧ (∀ y u, H0 y = some u → y ≠ b → upd H b o y = some u) ∧ ∀ y u, H y = some u → y ≠ b → upd H b o y = some u := by
  obtain ⟨G, sg, g0, fx, a⟩ := W.gh
  exact ⟨fun v hv => oddZ_same (same_mut sg g0) (a v hv), fun y u e n => by rw [upd_ne n]; exact W.sb y u e n, fun y u e n => by rw [upd_ne n]; exact e⟩
end
/-- nearly a fraction, in a part of the heap that the source is no part of -/
def OddB (K : PySem.W.Frag) (b : Addr) (H : Hp) (v : V) : Prop := ∃ G : Hp, Same G H ∧ G b = none ∧ OddZ K G v
section
variable {K : PySem.W.Frag} {b : Addr} {H H' : Hp} {v : V}
theorem OddB.z (h : OddB K b H v) : OddZ K H v := by
  obtain ⟨G, s, _, o⟩ := h
  exact oddZ_same s o
theorem OddB.sb (h : OddB K b H v) (s : ∀ y o, H y = some o → y ≠ b → H' y = some o) : OddB K b H' v := by
  obtain ⟨G, sg, g0, o⟩ := h
  exact ⟨G, fun y u e => s _ _ (sg _ _ e) (fun z => by subst z; rw [g0] at e; cases e), g0, o⟩
theorem Wz.drawn {x : V} {q : Rat} {H0 H1 : Hp} {src o : HO} {vs : List V} (W : Wz K x q b H0 H1 H src vs) : ∀ v ∈ vs, OddB K b (upd H b o) v := by
  obtain ⟨G, sg, g0, fx, a⟩ := W.gh
  exact fun v hv => ⟨G, same_mut sg g0, g0, a v hv⟩
end
end Q7
set_option maxRecDepth 100000
set_option maxHeartbeats 4000000
namespace Q7
open PySem PySem.Spec PyProof.Rows L2
/-! ### a method that is called by names alone -/
def tMethK (C : Addr) (m : Str) (nk : Nat) (sp : Sp) (gV : List V → List V → List V) (E : XK) (ta : TE) (tk : TA) : TE := fun σ H Q => ta σ H fun x H1 => ∃ a dx fs, x = .ref a ∧ H1 a = some (.ins C dx fs) ∧ fs.lookup m = none ∧ tk σ H1 fun zs H2 => zs.length = nk ∧ sp (gV [x] zs) H2 Q E
theorem pe_methK0 {X : Cx} {CX : CXT} {k : Nat} {f C : Addr} {fd : FuncData} {ps ks : List Str} {sp : Sp} {E : XK} {m : Str} {pos apos : Pos} {o : Expr} {kws : List Keyword} {ta : TE} {tk : TA} {pl : Sem Bool} {g : List Value → List Value → List Value} {gV : List V → List V → List V}
    (he : PE X o ta) (c : Cls X.K C) (hm : Meth X.K C m f) (F : FnOk X.prog X.w X.K X.mg X.base CX k f fd ps sp) (room : Room k X.A) (bnd : KBn X.K fd ps 1 ks g gV) (pass : Passes CX X E) (args : PK X kws tk)
    (named : (backToKw pos (keywordEach kws X.env)).all (·.1.isSome) = true := by rfl) (names : (backToKw pos (keywordEach kws X.env)).filterMap (·.1) = ks := by rfl)
    (plain : ((backTo pos (starEach [] X.env)).any (·.1) || (backToKw pos (keywordEach kws X.env)).any (·.1.isNone)) = false := by rfl)
    (ht : eval (.Call (.Attribute o m apos) [] kws pos) X.env = (do
      let ov ← eval o X.env
      standAt apos.atName
      let (f, first) ← holding [ov] (getMethod ov m pl)
      callWith pos f first (backTo pos (starEach [] X.env)) (backToKw pos (keywordEach kws X.env))) := by rfl) :
    PE X (.Call (.Attribute o m apos) [] kws pos) (tMethK C m ks.length sp gV E ta tk) := by
  refine ⟨fun pins s σ H Q I h => ?_⟩
  refine PySem.W.methodCall_KW (pl := pl) (thn (he.run pins s σ H _ I h) fun u s1 ⟨x, H1, I1, rx, a, dx, fs, ex, ea, l, q⟩ => ?_) ht
  subst ex
  obtain rfl : u = Value.ref a := rx
  refine getmeth_ok I1 ea c hm l ?_
  refine PySem.W.callWith_KW0 (first := [.ref a]) (h₀ := X.base) I.ok.mod.kin hm.kp named (thn (args.run pos pins s1 σ H1 _ I1 q) fun ws s2 ⟨zs, H2, I2, rz, l2, q2⟩ => ⟨I2.kIn, ?_⟩) plain
  rw [names]
  exact run_fnN (us := [.ref a]) (vs := [.ref a]) F room bnd pass I2 (.cons rfl .nil) rz rfl l2 q2
/-- places, then names in the parameters' order -/
def app2 {α : Type} (us ws : List α) : List α := us ++ ws
theorem vals_app : ∀ {vs zs : List V} {us ws : List Value}, Vals vs us → Vals zs ws → Vals (app2 vs zs) (app2 us ws)
  | _, _, _, _, .nil, h => h
  | _, _, _, _, .cons a b, h => .cons a (vals_app b h)
def app3 {α : Type} (us _ ws : List α) : List α := us ++ ws
theorem vals_app3 {vs ds zs : List V} {us its ws : List Value} (h1 : Vals vs us) (_ : Vals ds its) (h : Vals zs ws) : Vals (app3 vs ds zs) (app3 us its ws) := vals_app h1 h
end Q7
set_option maxRecDepth 100000
set_option maxHeartbeats 4000000
namespace Q7
open PySem PySem.Spec PyProof.Rows L2
/-! ### rows of one tick; the first that is found -/
theorem zero_row {Z : Rw} (h : ∀ p ∈ Z, p.1 = 0) : norm Z = if tot Z = 0 then [] else [(0, tot Z)] := by
  have e : ∀ f : Int → Rat, wt f Z = tot Z * f 0 := fun f => by
    rw [← wt_const]
    exact wt_congr fun p hp => by rw [h p hp]
  by_cases z : tot Z = 0
  · rw [if_pos z]
    refine norm_of ⟨.nil, by simp⟩ fun f => ?_
    rw [e, z, Rat.zero_mul]
    rfl
  · rw [if_neg z]
    refine norm_of ⟨by simp, by simpa using z⟩ fun f => ?_
    rw [e, wt_single]
theorem zero_head {Z : Rw} (h : ∀ p ∈ Z, p.1 = 0) : ∃ r, norm Z ++ [(0, 0)] = (0, tot Z) :: r := by
  rw [zero_row h]
  by_cases z : tot Z = 0
  · rw [if_pos z, z]
    exact ⟨[], rfl⟩
  · rw [if_neg z]
    exact ⟨[(0, 0)], rfl⟩
abbrev hereOf (a : Rw) (n : Int) : List Rat := (a.filter fun p => decide (p.1 = n)).map (·.2)
theorem here_head (n : Int) : ∀ a : Rw, ∃ r, hereOf a n ++ [0] = look a n :: r
  | [] => ⟨[], rfl⟩
  | (t, q) :: r => by
    unfold hereOf look
    by_cases e : t = n
    · rw [if_pos e, List.filter_cons_of_pos (by simpa using e)]
      exact ⟨_, rfl⟩
    · rw [if_neg e, List.filter_cons_of_neg (by simpa using e)]
      exact here_head n r
abbrev zeros (a : Rw) : Rw := a.map fun p => (0, p.2)
theorem zeros_tick (a : Rw) : ∀ p ∈ zeros a, p.1 = 0 := fun p hp => by
  obtain ⟨q, _, rfl⟩ := List.mem_map.mp hp
  rfl
theorem zeros_tot (a : Rw) : tot (zeros a) = tot a := by
  unfold tot zeros
  rw [List.map_map]
  rfl
/-! ### the bounds of a row that is looked at -/
structure GS (a : Rw) : Prop where
  ex : ∃ D M, Gd D M (10 ^ 58) 18 a ∧ 0 < D ∧ D < 2 ^ 400 ∧ M < 2 ^ 450
theorem GS.q {a : Rw} (h : GS a) : Gq a := by
  obtain ⟨D, M, g, h0, h1, h2⟩ := h.ex
  exact ⟨D, M, _, g.mono (Nat.le_refl _) (Nat.le_refl _) (by decide), h0, up_pow h1 (by decide), up_pow h2 (by decide)⟩
theorem GS.sh {a : Rw} (h : GS a) : ∀ p ∈ a, ShP p := fun p hp => by
  obtain ⟨D, M, g, h0, h1, h2⟩ := h.ex
  have hb : B 500 p.2 := (g.nd p hp).B h0 (up_pow h1 (by decide)) (up_pow h2 (by decide))
  refine ⟨?_, ?_, ?_⟩
  · have h1 := g.lo p hp
    have h2 := g.hi p hp
    have h3 : (10 ^ 58 : Nat) < 2 ^ 200 := by decide
    exact up_pow (n := 200) (show p.1.natAbs < 2 ^ 200 by omega) (by decide)
  · exact up_pow hb.1 (by decide)
  · unfold ShI
    rw [Int.natAbs_natCast]
    exact up_pow hb.2 (by decide)
theorem GS.sub {a b : Rw} (h : GS b) (s : a.Sublist b) : GS a := by
  obtain ⟨D, M, g, r⟩ := h.ex
  exact ⟨⟨D, M, g.sub s, r⟩⟩
theorem GS.len {a : Rw} (h : GS a) : a.length ≤ 18 := by
  obtain ⟨D, M, g, _⟩ := h.ex
  exact g.len
theorem GS.tot {a : Rw} (h : GS a) : B 500 (tot a) := by
  obtain ⟨D, M, g, h0, h1, h2⟩ := h.ex
  have z := ND.sum h0 (qs := a.map (·.2)) (M := M) fun q hq => by
    obtain ⟨p, hp, rfl⟩ := List.mem_map.mp hq
    exact g.nd p hp
  refine z.B h0 (up_pow h1 (by decide)) ?_
  rw [List.length_map]
  have h3 : a.length < 2 ^ 5 := by have := g.len; omega
  exact mul_lt_pow h3 h2 (by decide)
theorem GS.look {a : Rw} (h : GS a) (n : Int) : B 500 (look a n) := by
  obtain ⟨D, M, g, h0, h1, h2⟩ := h.ex
  by_cases e : ∃ p ∈ a, p.1 = n ∧ Q7.look a n = p.2
  · obtain ⟨p, hp, _, e⟩ := e
    rw [e]
    exact (g.nd p hp).B h0 (up_pow h1 (by decide)) (up_pow h2 (by decide))
  · have : ∀ b : Rw, (∀ p ∈ b, p.1 = n → False) ∨ ∃ p ∈ b, p.1 = n ∧ Q7.look b n = p.2 := by
      intro b
      induction b with
      | nil => exact .inl fun p hp => by cases hp
      | cons x r ih =>
        obtain ⟨t, q⟩ := x
        by_cases et : t = n
        · refine .inr ⟨(t, q), List.mem_cons_self, et, ?_⟩
          unfold Q7.look
          rw [if_pos et]
        · rcases ih with ih | ⟨p, hp, e1, e2⟩
          · exact .inl fun p hp e => by
              rcases List.mem_cons.mp hp with rfl | hp
              · exact et e
              · exact ih p hp e
          · refine .inr ⟨p, List.mem_cons_of_mem _ hp, e1, ?_⟩
            unfold Q7.look
            rw [if_neg et]
            exact e2
    rcases this a with z | z
    · rw [look_mem fun p hp q => z p hp q]
      exact (ND.zero D).B h0 (up_pow h1 (by decide)) (by decide)
    · exact absurd z e
theorem GS.zeros {a : Rw} (h : GS a) : Gq (zeros a) := by
  obtain ⟨D, M, g, h0, h1, h2⟩ := h.ex
  refine ⟨D, M, 10 ^ 58, ⟨?_, ?_, ?_, ?_⟩, h0, up_pow h1 (by decide), up_pow h2 (by decide)⟩
  · intro p hp
    obtain ⟨q, hq, rfl⟩ := List.mem_map.mp hp
    exact g.nd q hq
  · intro p hp
    rw [zeros_tick a p hp]
    exact Int.le_refl 0
  · intro p hp
    rw [zeros_tick a p hp]
    exact Int.natCast_nonneg _
  · rw [List.length_map]
    have := g.len
    omega
/-! ### texts of two fractions -/
theorem smI_fr {q : Rat} (b : B 500 q) : SmI 2 1 (fr q) := by
  have h1 : ShI q.num := up_pow b.1 (by decide)
  have h2 : ShI (q.den : Int) := by
    unfold ShI
    rw [Int.natAbs_natCast]
    exact up_pow b.2 (by decide)
  have m := sm_tup (smA_cons (sm_int h1) (smA_cons (sm_int h2) smA_nil))
  have z : (fr q).bulk = 2 := by simp only [fr, PyData.bulk, PyData.bulkAll]
  exact ⟨m.sh, m.lf, by rw [z]; exact Nat.le_refl _, m.dp, m.nd⟩
abbrev twoF (q : Rat) : PyData := .list [fr q, fr q]
theorem two_ok {q : Rat} (b : B 500 q) : (twoF q).showable = true ∧ (twoF q).depth ≤ 40 ∧ (twoF q).shown.length + 64 ≤ sizeLine ∧ (twoF q).hasDict = false := by
  have m := sm_lst (smA_cons (smI_fr b) (smA_cons (smI_fr b) smA_nil))
  exact ⟨m.sh, Nat.le_trans m.dp (by decide), m.len (by decide), m.nd⟩
end Q7
set_option maxRecDepth 100000
set_option maxHeartbeats 4000000
namespace Q7
open PySem PySem.Spec PyProof.Rows L2
/-! ### an instance == a value of a known kind -/
theorem notFirst_kind {K : PySem.W.Frag} {C : Addr} : ∀ {t : String}, t ∈ kinds → PySem.W.notFirst K C (.type t) = true := by
  intro t ht
  unfold kinds at ht
  simp only [List.mem_cons, List.not_mem_nil, or_false] at ht
  rcases ht with rfl | rfl | rfl | rfl | rfl | rfl | rfl <;> rfl
def rOwnY (K : PySem.W.Frag) (C : Addr) (sp : Sp) (E : XK) : R2 := fun x y H Q => ∃ a dx fs t, x = .ref a ∧ H a = some (.ins C dx fs) ∧ Ki K H y t ∧ sp [x, y] H Q E
section
variable {X : Cx} {CX : CXT} {n : Nat} {g C : Addr} {fd : FuncData} {ps : List Str} {sp : Sp} {E : XK}
theorem op_ownEqY (hs : PySem.W.findIn X.K (.ref C) "__eq__" = some (some (.ref g))) (hf : PySem.W.isFn X.K (.ref g) = true)
    (F : FnOk X.prog X.w X.K X.mg X.base CX n g fd ps sp) (hr : Room n X.A) (hb : Binds X.K fd ps []) (hx : Passes CX X E) : OpR X (compareOp .Eq) (rOwnY X.K C sp E) := by
  intro pins s σ H x y v u Q I rx ry h
  obtain ⟨a, dx, fs, t, rfl, ha, ⟨ty, ht⟩, q⟩ := h
  cases rx
  obtain ⟨ox, od, J⟩ := look2 I ha
  obtain ⟨P, Z, p, _⟩ := kit_of I ry ty
  obtain ⟨m, hF⟩ := I.fr
  unfold compareOp
  refine PySem.W.cmp_K (op := .Eq) (tb := .type t) hr.units0 hF I.ok.mod.kin J (Z.ty _ _ I.kIn p) (notFirst_kind ht) hs hf ?_
  refine wpAny_mono (run_fn (us := [.ref a, u]) (vs := [.ref a, y]) F hr hb .nil hx I (.cons rfl (.cons ry .nil)) q) (fun w s' z => ?_) fun _ _ z => z
  obtain ⟨z', H', I', rz, qz⟩ := z
  exact SlX.cmpback rz ⟨z', H', I', rz, qz⟩
end
/-! ### what pairs with a list that is put in another order -/
theorem perm_pair {α β : Type} {R : α → β → Prop} {ys xs : List α} (p : ys.Perm xs) : ∀ {a : List β}, Paired R xs a → ∃ b, b.Perm a ∧ Paired R ys b := by
  induction p with
  | nil => intro a h; exact ⟨a, .refl _, h⟩
  | cons x _ ih =>
    intro a h
    cases h with
    | cons r1 r2 =>
      obtain ⟨b, pb, hb⟩ := ih r2
      exact ⟨_, pb.cons _, .cons r1 hb⟩
  | swap x y l =>
    intro a h
    cases h with
    | cons r1 h =>
      cases h with
      | cons r2 h => exact ⟨_, List.Perm.swap _ _ _, .cons r2 (.cons r1 h)⟩
  | trans _ _ ih1 ih2 =>
    intro a h
    obtain ⟨b, pb, hb⟩ := ih2 h
    obtain ⟨c, pc, hc⟩ := ih1 hb
    exact ⟨c, pc.trans pb, hc⟩
theorem norm_perm {a b : Rw} (p : b.Perm a) : norm b = norm a := norm_eq fun f => wt_perm f p
def half (q : Rat) : Rat := Rat.divInt q.num ((q.den : Int) * 2)
theorem half_two (q : Rat) : half q + half q = q := by
  have d := q.den_pos
  have d1 : (q.den : Int) * 2 ≠ 0 := by omega
  have d2 : (q.den : Int) ≠ 0 := by omega
  unfold half
  rw [Rat.divInt_add_divInt _ _ d1 d1]
  conv => rhs; rw [← Rat.num_divInt_den q]
  rw [Rat.divInt_eq_divInt_iff (Int.mul_ne_zero d1 d1) d2]
  generalize (q.den : Int) = e
  generalize q.num = n
  grind
def halves (a : Rw) : Rw := a.map fun p => (p.1, half p.2)
/-- halves, twice -/
theorem norm_split (a : Rw) : norm (halves a ++ halves a) = norm a := norm_eq fun f => by
  rw [wt_append]
  unfold halves
  induction a with
  | nil => exact Rat.zero_add 0
  | cons p r ih =>
    simp only [List.map_cons, wt]
    rw [← ih]
    conv => rhs; rw [← half_two p.2]
    rw [Rat.add_mul]
    generalize half p.2 * f p.1 = u
    generalize wt f (r.map fun p => (p.1, half p.2)) = v
    grind
theorem nd_half {D M : Nat} {q : Rat} (h : ND D M q) : ND (D * 2) M (half q) := by
  have d := q.den_pos
  have e : half q = q * Rat.divInt 1 (2 : Nat) := by
    unfold Q7.half
    conv => rhs; rw [← Rat.num_divInt_den q]
    rw [Rat.divInt_mul_divInt, Int.mul_one]
    rfl
  rw [e]
  have := h.mul (⟨1, rfl, by decide⟩ : ND 2 1 (Rat.divInt 1 (2 : Nat)))
  rwa [Nat.mul_one] at this
end Q7
set_option maxRecDepth 100000
set_option maxHeartbeats 4000000
namespace Q7
open PySem PySem.Spec PyProof.Rows L2
/-! ### sorted(d) of a dict of ints, many of them -/
theorem call_sortedDIb {X : Cx} (hcalm : X.calm = true) : CallR X (.builtin "sorted") (fun xs H Q => ∃ (a : Addr) (kvs : List (Key × V)) (ks : List Int), xs = [.ref a] ∧ Rd H a (.dK kvs) ∧ kvs.map (·.1) = ks.map Sum.inl ∧ ks.length ≤ 2 ^ 20 ∧
    ∀ (ys : List Int) (p : Addr), ys.Perm ks → ys.Pairwise (· ≤ ·) → H p = none → Q (.ref p) (upd H p (.lst (ys.map V.int)))) := by
  intro pins s σ H xs us Q I r q
  obtain ⟨a, kvs, ks, ex, hd, hks, h64, q⟩ := q
  subst ex
  obtain ⟨u, eu, rx⟩ := vals1 r
  subst eu
  cases rx
  obtain ⟨z, lo, vs, rel, dd⟩ := dk_rd I.hok hd
  obtain ⟨ep, hat⟩ := dd.dictAt
  have hkeys : vs.map (·.1) = ks.map Sum.inl := rel.keys.symm.trans hks
  have hl : vs.length = ks.length := by
    have e := congrArg List.length hkeys
    rw [List.length_map, List.length_map] at e
    exact e
  have h16 : vs.length ≤ sizeLine := by rw [hl]; exact Nat.le_trans h64 (by decide)
  refine Calls.call_function_entry PyProof.Rows.kind_sorted PyProof.Rows.plain_sorted PyProof.Rows.entry_sorted (PyProof.Rows.args_sorted1 _) ?_
  unfold Builtin.«sorted»
  refine wpAny_bind (m := checkCount "sorted" 1 1 _) (wpAny_pure ?_)
  refine wpAny_bind (PySem.W.kdu_collect (A := X.A.in1) (PySem.W.kdl_dict (knd := mixKind X.prog X.w) (kvs := vs) (ep := ep) lo) (I.ok.hd hcalm) hat h16 fun h' tk acc hk hacc => ?_)
  have hal : acc.toList.length = ks.length := by rw [Array.length_toList, hacc.1, hl]
  have hS : IntsAre acc.toList ks := ints_each hal fun j v e => by
    obtain ⟨k, x, e1, e2⟩ := hacc.2 j v (by rw [← Array.getElem?_toList]; exact e)
    have e3 : (vs.map (·.1))[j]? = some k := by rw [List.getElem?_map, e1]; rfl
    rw [hkeys, List.getElem?_map] at e3
    cases e4 : ks[j]? with
    | none => rw [e4] at e3; cases e3
    | some y =>
      rw [e4] at e3
      have e5 : Sum.inl y = k := Option.some.inj e3
      subst e5
      rcases keyIs_shape (show keyIs (Sum.inl y) v = true from e2) with ⟨i, t, ek, ev⟩ | ⟨z, t, ek, ev⟩
      · cases ek
        exact ⟨y, t, rfl, ev⟩
      · cases ek
  have I1 : Inv X pins σ H { s with heap := h', toks := tk } := I.kept hk
  have hz2 : acc.toList.length ≤ sizeLine := by rw [hal]; exact Nat.le_trans h64 (by decide)
  refine wpAny_bind (wpAny_newList ?_ hz2)
  have hoL : (h'.push (seqObj "list" acc.toList.toArray 0)).get? h'.objs.size = some (seqObj "list" acc.toList.toArray 0) := Heap.get?_push_size _ rfl
  show wpAny _ _ _ _ _ { s with heap := h'.push (seqObj "list" acc.toList.toArray 0), toks := tk }
  refine wpAny_bind (wpAny_holding (wpAny_call_entry PyProof.Rows.slot_list_sort ⟨_, hoL, rfl⟩ PyProof.Rows.entry_list_sort
    (SrtO.list_sort_ord (s := { s with heap := h'.push (seqObj "list" acc.toList.toArray 0), toks := tk }) SrtO.swo_int hoL hz2 (fun h2 => SrtO.ints_sortable hS h2) fun out g1 g2 => ⟨_, rfl, ?_⟩) (PyProof.Rows.args_list_sort _)))
  obtain ⟨k1, k2, k3⟩ := SrtO.ints_out hS g1 g2
  obtain ⟨e', he'⟩ := PyProof.Rows.sortedHeap_at (vs := acc.toList) (out := out.toArray) hoL
  have hlen : ((out.map SrtO.iv).map V.int).length ≤ sizeLine := by
    rw [List.length_map, k2.length_eq]
    exact Nat.le_trans h64 (by decide)
  refine wpAny_pure ⟨_, rfl, .ref h'.objs.size, upd H h'.objs.size (.lst ((out.map SrtO.iv).map V.int)), I1.laid (t' := tk) (fun b u e => ?_) (Nat.le_refl _)
    (show ObjOk X.prog X.w _ _ _ (.lst ((out.map SrtO.iv).map V.int)) from ⟨hlen, out, e', vals_of_ints k1, he'⟩), rfl, q _ _ k2 k3 (I1.hok.fresh (Nat.le_refl _))⟩
  have hb : b < h'.objs.size := Heap.lt_size e
  rw [PyProof.Rows.sortedHeap_old (Nat.ne_of_lt hb) (by rw [size_push']; exact Nat.lt_succ_of_lt hb)]
  exact Heap.get?_push_of_some _ e
/-! ### rows of many pairs -/
def Gw (ps : Rw) : Prop := ∃ D M T, Gd D M T 2100 ps ∧ 0 < D ∧ D < 2 ^ 2900 ∧ M < 2 ^ 2900
theorem Gw.of {D M T L : Nat} {ps : Rw} (h : Gd D M T L ps) (hD : 0 < D) (h1 : D < 2 ^ 2900) (h2 : M < 2 ^ 2900) (h3 : L ≤ 2100) : Gw ps := ⟨D, M, T, h.mono (Nat.le_refl _) (Nat.le_refl _) h3, hD, h1, h2⟩
theorem lt_4096 {M n : Nat} (h : M < 2 ^ 2900) (hn : n ≤ 4096) : n * M < 2 ^ 3000 := by
  have h1 : n * M ≤ 2 ^ 12 * M := Nat.mul_le_mul (by omega) (Nat.le_refl _)
  have h2 : 2 ^ 12 * M < 2 ^ 12 * 2 ^ 2900 := Nat.mul_lt_mul_of_pos_left h (by omega)
  rw [← Nat.pow_add] at h2
  have h3 := pow_le' (show 12 + 2900 ≤ 3000 by omega)
  omega
theorem Gw.mem {ps : Rw} (h : Gw ps) : ∀ p ∈ ps, B 3000 p.2 := fun p hp => by
  obtain ⟨D, M, T, g, hD, h1, h2⟩ := h
  exact (g.nd p hp).B hD (lt_1000 h1) (Nat.lt_of_lt_of_le h2 (pow_le' (by omega)))
theorem Gw.lo {ps : Rw} (h : Gw ps) : ∀ p ∈ ps, 0 ≤ p.1 := fun p hp => by
  obtain ⟨D, M, T, g, _⟩ := h
  exact g.lo p hp
theorem Gw.len {ps : Rw} (h : Gw ps) : ps.length ≤ 2100 := by
  obtain ⟨D, M, T, g, _⟩ := h
  exact g.len
theorem Gw.sub {a b : Rw} (h : Gw b) (s : a.Sublist b) : Gw a := by
  obtain ⟨D, M, T, g, r⟩ := h
  exact ⟨D, M, T, g.sub s, r⟩
theorem Gw.look {ps : Rw} (h : Gw ps) (i : Nat) (t : Int) : B 3000 (look (sums (ps.take i)) t) := by
  obtain ⟨D, M, T, g, hD, h1, h2⟩ := h
  rw [look_sums]
  refine (ND.wt hD t (ps := ps.take i) (M := M) fun p hp => g.nd p (List.mem_of_mem_take hp)).B hD (lt_1000 h1) (lt_4096 h2 ?_)
  rw [List.length_take]
  have := g.len
  omega
theorem Gw.look' {ps : Rw} (h : Gw ps) (t : Int) : B 3000 (Q7.look (sums ps) t) := by
  have := h.look ps.length t
  rwa [List.take_length] at this
theorem Gw.psum {ps : Rw} (h : Gw ps) (i : Nat) : B 3000 ((ps.map (·.2)).take i).sum := by
  obtain ⟨D, M, T, g, hD, h1, h2⟩ := h
  refine (ND.sum hD (qs := (ps.map (·.2)).take i) (M := M) fun q hq => ?_).B hD (lt_1000 h1) (lt_4096 h2 ?_)
  · obtain ⟨p, hp, rfl⟩ := List.mem_map.mp (List.mem_of_mem_take hq)
    exact g.nd p hp
  · rw [List.length_take, List.length_map]
    have := g.len
    omega
theorem Gw.none : Gw [] := Gw.of (D := 1) (M := 0) (T := 0) (L := 0) ⟨by simp, by simp, by simp, by simp⟩ (by decide) (Nat.one_lt_two_pow (by decide)) (Nat.two_pow_pos _) (by decide)
theorem line22 : 2200 < sizeLine := by decide
end Q7
set_option maxRecDepth 100000
set_option maxHeartbeats 4000000
namespace Q7
open PySem PySem.Spec PyProof.Rows L2
/-! ### methods, makings, operators whose error is wished for where the slots stand -/
section
variable {X : Cx} {CX : CXT} {n : Nat} {g C : Addr} {fd : FuncData} {ps ks : List Str} {sp : Sp} {dv : List V} {dw : List Value} {W : L2.St → XK} {nm m : Str} {p pos apos : Pos} {a o : Expr} {as : List Expr} {ta : TE} {t tk : TA} {kws : List Keyword}
def tMethAt (C : Addr) (m : Str) (sp : Sp) (dv : List V) (W : L2.St → XK) (ta : TE) (t : TA) : TE := fun σ H Q => ta σ H fun x H1 => ∃ y dy fs, x = .ref y ∧ H1 y = some (.ins C dy fs) ∧ fs.lookup m = none ∧
  t σ H1 fun vs H2 => sp (x :: (vs ++ dv)) H2 Q (W σ)
theorem pe_methAt {pl : Sem Bool} (ho : PE X o ta) (c : Cls X.K C) (hm : Meth X.K C m g) (F : FnOk X.prog X.w X.K X.mg X.base CX n g fd ps sp) (room : Room n X.A) (bnd : Binds X.K fd ps dw) (hd : Vals dv dw) (pass : ∀ σ, PassesAt CX X σ (W σ)) (args : PA X (a :: as) t)
    (stars : starEach (a :: as) X.env = (false, eval a X.env) :: starEach as X.env := by rfl) (plain : (backTo pos (starEach as X.env)).any (·.1) = false := by rfl)
    (text : eval (.Call (.Attribute o m apos) (a :: as) [] pos) X.env = (do
      let ov ← eval o X.env
      standAt apos.atName
      let (f, first) ← holding [ov] (getMethod ov m pl)
      callWith pos f first (backTo pos (starEach (a :: as) X.env)) (backToKw pos (keywordEach [] X.env))) := by rfl) :
    PE X (.Call (.Attribute o m apos) (a :: as) [] pos) (tMethAt C m sp dv W ta t) := by
  constructor
  intro pins s σ H Q I h
  refine PySem.W.methodCall_KW (pl := pl) (thn (ho.run pins s σ H _ I h) fun u s1 z => ?_) text
  obtain ⟨x, H1, I1, rx, y, dy, fs, rfl, hy, l, q⟩ := z
  obtain rfl : u = Value.ref y := rx
  refine getmeth_ok I1 hy c hm l (PySem.W.callWith_K (first := [.ref y]) (h₀ := X.base) I.ok.mod.kin hm.kp (thn (args.run pos pins s1 σ H1 _ I1 q) fun us s2 z => ?_) stars plain)
  obtain ⟨vs, H2, I2, r, q2⟩ := z
  exact ⟨I2.kIn, run_fnSD (us := .ref y :: us) (vs := .ref y :: vs) F room bnd hd (pass σ) I2 (.cons rfl r) q2⟩
/-- a new instance whose __init__ may raise -/
theorem made_at {pins : List (Addr × Obj)} {σ : L2.St} {H : Hp} {s : Shared} {Q : VK} {us ws zs : List Value} {vs : List V} (M : Mk X.K C g) (F : FnOk X.prog X.w X.K X.mg X.base CX n g fd ps sp) (room : Room (n + 1) X.A) (pass : PassesAt CX X σ (W σ))
    (I : Inv X pins σ H s) (y dy : Addr) (ey : y = s.heap.objs.size + 1) (ed : dy = s.heap.objs.size) (r : Vals (.ref y :: vs) (.ref y :: zs))
    (bnd : ∀ s' : Shared, X.K.In s'.heap → BindsTo s' fd ⟨.ref y :: us, ks.zip ws⟩ (ps.zip (.ref y :: zs)))
    (prom : sp (.ref y :: vs) (upd (upd H dy (.own y)) y (.ins C dy [])) (fun v H2 => v = .non ∧ Q (.ref y) H2) (W σ)) :
    wpAny (model X.prog X.w) X.A (call (.ref C) us (ks.zip ws)) (EP X pins σ Q) X.xe s := by
  subst ey ed
  have J := Inv.made (C := C) I
  refine wpAny_call (make_map (f := g) I.kIn M.makes M.init (beq_iff_eq.mp M.fn) (codeAny_mono (F.run _ X.stack _ _ ⟨.ref (s.heap.objs.size + 1) :: us, ks.zip ws⟩ _ _ _ (W σ) (room.make C us (ks.zip ws))
    (J.env0.make C us (ks.zip ws)) (bnd _ J.kIn) r prom) fun res s' hq => ?_))
  match res, hq with
  | .error er, q => exact pass pins _ _ er s' J q
  | .ok .next, q => exact False.elim q
  | .ok .brk, q => exact False.elim q
  | .ok .cont, q => exact False.elim q
  | .ok (.ret _), q =>
    obtain ⟨v, H', I3, rv, ev, q3⟩ := J.after q
    subst ev
    exact ⟨rv, .ref (s.heap.objs.size + 1), H', I3, rfl, q3⟩
def tMakeAt (C : Addr) (sp : Sp) (dv : List V) (W : L2.St → XK) (t : TA) : TE := fun σ H Q => t σ H fun vs H1 => ∀ y dy, H1 y = none → H1 dy = none → dy ≠ y →
  sp (.ref y :: (vs ++ dv)) (upd (upd H1 dy (.own y)) y (.ins C dy [])) (fun v H2 => v = .non ∧ Q (.ref y) H2) (W σ)
theorem pe_makeAt (M : Mk X.K C g) (F : FnOk X.prog X.w X.K X.mg X.base CX n g fd ps sp) (room : Room (n + 1) X.A) (gl : Gl X nm) (here : X.mg nm = some (.ref C)) (bnd : Binds X.K fd ps dw) (hd : Vals dv dw) (pass : ∀ σ, PassesAt CX X σ (W σ))
    (args : PA X (a :: as) t) (nd : (nm == ("__debug__" : Str)) = false := by decide) (stars : starEach (a :: as) X.env = (false, eval a X.env) :: starEach as X.env := by rfl) (plain : (backTo pos (starEach as X.env)).any (·.1) = false := by rfl) :
    PE X (.Call (.Name nm p) (a :: as) [] pos) (tMakeAt C sp dv W t) := by
  constructor
  intro pins s σ H Q I h
  refine wpAny_Call_Name_kw (ld_glob I gl here (PySem.W.callWith_K (h₀ := X.base) I.ok.mod.kin M.kp (thn (args.run pos pins s σ H _ I h) fun us s1 z => ?_) stars plain) nd)
  obtain ⟨vs, H1, I1, r, q⟩ := z
  have q1 := q (s1.heap.objs.size + 1) s1.heap.objs.size (I1.hok.fresh (Nat.le_succ _)) (I1.hok.fresh (Nat.le_refl _)) (Nat.ne_of_lt (Nat.lt_succ_self _))
  have r2 : Vals (V.ref (s1.heap.objs.size + 1) :: (vs ++ dv)) (Value.ref (s1.heap.objs.size + 1) :: (us ++ dw)) := .cons rfl (r.append hd)
  have hl := r2.length
  rw [F.len _ _ _ _ q1] at hl
  exact ⟨I1.kIn, made_at (ks := []) (ws := []) M F room (pass σ) I1 _ _ rfl rfl r2 (fun s' k => bnd s' (.ref (s1.heap.objs.size + 1) :: us) k hl.symm) q1⟩
def tMakeKAt (C : Addr) (m : Nat) (sp : Sp) (gV : List V → List V → List V) (W : L2.St → XK) (tk : TA) : TE := fun σ H Q => tk σ H fun zs H1 => zs.length = m ∧ ∀ y dy, H1 y = none → H1 dy = none → dy ≠ y →
  ∃ vs, gV [.ref y] zs = .ref y :: vs ∧ sp (.ref y :: vs) (upd (upd H1 dy (.own y)) y (.ins C dy [])) (fun v H2 => v = .non ∧ Q (.ref y) H2) (W σ)
theorem pe_makeKAt {gg : List Value → List Value → List Value} {gV : List V → List V → List V} (M : Mk X.K C g) (F : FnOk X.prog X.w X.K X.mg X.base CX n g fd ps sp) (room : Room (n + 1) X.A) (gl : Gl X nm) (here : X.mg nm = some (.ref C)) (bnd : KBn X.K fd ps 1 ks gg gV) (pass : ∀ σ, PassesAt CX X σ (W σ))
    (args : PK X kws tk) (named : (backToKw pos (keywordEach kws X.env)).all (·.1.isSome) = true := by rfl) (names : (backToKw pos (keywordEach kws X.env)).filterMap (·.1) = ks := by rfl) (nd : (nm == ("__debug__" : Str)) = false := by decide)
    (plain : ((backTo pos (starEach [] X.env)).any (·.1) || (backToKw pos (keywordEach kws X.env)).any (·.1.isNone)) = false := by rfl) :
    PE X (.Call (.Name nm p) [] kws pos) (tMakeKAt C ks.length sp gV W tk) := by
  constructor
  intro pins s σ H Q I h
  refine wpAny_Call_Name_kw (ld_glob I gl here (PySem.W.callWith_KW0 (h₀ := X.base) I.ok.mod.kin M.kp named (thn (args.run pos pins s σ H _ I h) fun ws s1 z => ?_) plain) nd)
  obtain ⟨zs, H1, I1, rz, l1, q⟩ := z
  refine ⟨I1.kIn, ?_⟩
  rw [names]
  obtain ⟨vs, ev, q1⟩ := q (s1.heap.objs.size + 1) s1.heap.objs.size (I1.hok.fresh (Nat.le_succ _)) (I1.hok.fresh (Nat.le_refl _)) (Nat.ne_of_lt (Nat.lt_succ_self _))
  have r0 : Vals [V.ref (s1.heap.objs.size + 1)] [Value.ref (s1.heap.objs.size + 1)] := .cons rfl .nil
  have r2 := bnd.rel r0 rz
  rw [ev] at r2
  have l2 : ws.length = ks.length := rz.length.symm.trans l1
  have key : ∃ us, gg [Value.ref (s1.heap.objs.size + 1)] ws = Value.ref (s1.heap.objs.size + 1) :: us := by
    generalize gg [Value.ref (s1.heap.objs.size + 1)] ws = all at r2
    cases r2 with
    | cons r3 r4 => cases r3; exact ⟨_, rfl⟩
  obtain ⟨us, eu⟩ := key
  rw [eu] at r2
  exact made_at (us := []) M F room (pass σ) I1 _ _ rfl rfl r2 (fun s' k => by
    have := bnd.to s' [.ref (s1.heap.objs.size + 1)] ws k rfl l2
    rwa [eu] at this) q1
/-! ### x op y by the own method of x's class, y of a known kind -/
/-- what the built-in types' tables say of an operator, beside the class at x -/
def tBin (op : Operator) (x : Str) : Tst := fun K => (match PySem.W.findIn K (.ref (He.ga K x)) (dunderR op.info.2) with
    | some none => true
    | _ => false) && kinds.all fun t => (PySem.W.findIn K (.type t) (PySem.dunder op.info.2)).isSome && ((PySem.W.findIn K (.type t) (dunderR op.info.2)).isSome && decide (PySem.W.subIn K (.type t) (.ref (He.ga K x)) = some false))
structure BinT (K : PySem.W.Frag) (op : Operator) (C : Addr) : Prop where
  no : PySem.W.findIn K (.ref C) (dunderR op.info.2) = some none
  all : ∀ t ∈ kinds, ∃ fo ro, PySem.W.findIn K (.type t) (PySem.dunder op.info.2) = some fo ∧ PySem.W.findIn K (.type t) (dunderR op.info.2) = some ro ∧ PySem.W.subIn K (.type t) (.ref C) = some false
theorem tBin_ok {op : Operator} {x : Str} {K : PySem.W.Frag} (c : tBin op x K = true) : BinT K op (He.ga K x) := by
  obtain ⟨h1, h2⟩ := He.ba c
  refine ⟨?_, fun t ht => ?_⟩
  · split at h1
    · assumption
    · cases h1
  · have h3 := List.all_eq_true.mp h2 t ht
    obtain ⟨h4, h5⟩ := He.ba h3
    obtain ⟨h6, h7⟩ := He.ba h5
    obtain ⟨fo, e1⟩ := Option.isSome_iff_exists.mp h4
    obtain ⟨ro, e2⟩ := Option.isSome_iff_exists.mp h6
    exact ⟨fo, ro, e1, e2, of_decide_eq_true h7⟩
theorem bin_kind {prog : Program} {w : World} {A : Around} {Ex : Value → Shared → Prop} {K : PySem.W.Frag} {y C f L : Addr} {h₀ : Heap} {mm : Str → Option Value} {oy : Obj} {od : Option Obj} {op : Operator} {b : Value} {T : String} {fo ro : Option Value} {P : Value → Shared → Prop} {s : Shared}
    (F : PyProof.Rows.Fr h₀ L s.heap mm) (K0 : K.In h₀) (J : PySem.W.InstAt s.heap y oy C od) (ty : PySem.W.Looks (model prog w) s.heap (typeOf b) (.type T)) (first : PySem.W.selfFirst K C = true)
    (own : PySem.W.findIn K (.ref C) (PySem.dunder op.info.2) = some (some (.ref f))) (isf : PySem.W.isFn K (.ref f) = true) (noR : PySem.W.findIn K (.ref C) (dunderR op.info.2) = some none)
    (e1 : PySem.W.findIn K (.type T) (PySem.dunder op.info.2) = some fo) (e2 : PySem.W.findIn K (.type T) (dunderR op.info.2) = some ro) (sub : PySem.W.subIn K (.type T) (.ref C) = some false)
    (goes : wpAny (model prog w) A (call (.ref f) [.ref y, b]) (PySem.W.CmpBack P) Ex s) : wpAny (model prog w) A (binaryOp op (.ref y) b) P Ex s := by
  have KX := K0.keeps F.keep
  obtain ⟨cd, rest, hcd, hmro⟩ := PySem.W.ksp_first first
  rcases hop : op.info with ⟨sy, nm'⟩
  rw [hop] at own noR e1 e2
  simp only at own noR e1 e2
  have its := PySem.W.ksp_try KX J own isf goes
  obtain ⟨hp, gs, dn, tt, os⟩ := s
  have A1 : PySem.W.Looks (model prog w) hp (typeOf (.ref y)) (.ref C) := J.type
  have A2 : PySem.W.Looks (model prog w) hp (fillsNumberSlot (.ref C) nm') true := PySem.W.fills_K KX hcd hmro own
  have A3 : PySem.W.Looks (model prog w) hp (fillsNumberSlot (.type T) nm') ((fo.isSome && !isSeqSlot fo) || (ro.isSome && !isSeqSlot ro)) := PySem.W.ksp_fillsT KX e1 e2
  have A4 : PySem.W.Looks (model prog w) hp (isSubtype (.type T) (.ref C)) false := PySem.W.looks_subIn KX sub
  have A5 : PySem.W.Looks (model prog w) hp (numberSlotInPython (.ref C) nm') true := PySem.W.ksp_inPy KX own noR (.inl rfl)
  have A6 : PySem.W.Looks (model prog w) hp (numberSlotInPython (.type T) nm') false := PySem.W.Looks.of_pure rfl
  have A7 : PySem.W.Looks (model prog w) hp (typeLookup (.type T) (dunderR nm')) ro := PySem.W.looks_findIn KX e2
  generalize ((fo.isSome && !isSeqSlot fo) || (ro.isSome && !isSeqSlot ro)) = right at A3
  have two : (Value.ref C == Value.type T) = false := Bool.eq_false_iff.mpr fun q => nomatch beq_iff_eq.mp q
  simp only [binaryOp, hop]
  refine wpAny_holding (wpAny_bind ?_)
  unfold binaryOp1
  refine wpAny_bind (A1.at (wpAny_bind (ty.at (wpAny_bind (A2.at ?_)))))
  simp only [two, Bool.false_eq_true, if_false]
  cases right <;> (ksp_lk; refine wpAny_mono its (fun r s' z => ?_) fun _ _ e => e; obtain ⟨v, rfl, z⟩ := z; ksp_lk; exact z)
/-- x op y, x an instance of the class at C, y of a kind: what C's method for op keeps -/
def tOpAt (K : PySem.W.Frag) (C : Addr) (sp : Sp) (W : L2.St → XK) (ta tb : TE) : TE := fun σ H Q => ta σ H fun x H1 => tb σ H1 fun y H2 => ∃ b dx fs, x = .ref b ∧ H2 b = some (.ins C dx fs) ∧
  ((∃ t, Ki K H2 y t) ∨ ∃ c dy gs, y = .ref c ∧ H2 c = some (.ins C dy gs)) ∧ sp [x, y] H2 Q (W σ)
theorem pe_opAt {op : Operator} {b : Expr} {tb : TE} (first : PySem.W.selfFirst X.K C = true) (BT : BinT X.K op C) (own : PySem.W.findIn X.K (.ref C) (PySem.dunder op.info.2) = some (some (.ref g))) (isf : PySem.W.isFn X.K (.ref g) = true)
    (F : FnOk X.prog X.w X.K X.mg X.base CX n g fd ps sp) (room : Room n X.A) (bnd : Binds X.K fd ps []) (pass : ∀ σ, PassesAt CX X σ (W σ)) (ha : PE X a ta) (hb : PE X b tb) : PE X (.BinOp a op b pos) (tOpAt X.K C sp W ta tb) := by
  constructor
  intro pins s σ H Q I h
  refine wpAny_BinOp (binT ha hb I h fun v u s2 x y H2 I2 rx ry q => ?_)
  obtain ⟨c, dx, fs, rfl, hc, hy, q⟩ := q
  cases rx
  obtain ⟨ox, od, J⟩ := look2 I2 hc
  obtain ⟨mm, hF⟩ := I2.fr
  have goes : wpAny (model X.prog X.w) X.A (call (.ref g) [.ref c, u]) (PySem.W.CmpBack (EP X pins σ Q)) X.xe s2 := by
    refine wpAny_mono (run_fnSD (us := [.ref c, u]) (vs := [.ref c, y]) F room bnd .nil (pass σ) I2 (.cons rfl (.cons ry .nil)) q) (fun w s' z => ?_) fun _ _ z => z
    obtain ⟨z', H', I', rz, qz⟩ := z
    exact SlX.cmpback rz ⟨z', H', I', rz, qz⟩
  rcases hy with ⟨t, ty, ht⟩ | ⟨d, dy, gs, rfl, hd⟩
  · obtain ⟨P, Z, p, _⟩ := kit_of I2 ry ty
    obtain ⟨fo, ro, e1, e2, sub⟩ := BT.all t ht
    exact bin_kind hF I2.ok.mod.kin J (Z.ty _ _ I2.kIn p) first own isf BT.no e1 e2 sub goes
  · cases ry
    obtain ⟨oy, od', J'⟩ := look2 I2 hd
    exact PySem.W.binop_K hF I2.ok.mod.kin J J'.type first own isf goes
end
/-! ### {(True, False): "x", ..}.get(t, "y") -/
section
abbrev lk (P : Program) (w : World) : HeapKind P w (List Leaf) := tupleKind (leafKind P w)
def leafB (b : Bool) : Leaf := .num (if b = true then 1 else 0)
theorem leafB_inj {a b : Bool} (h : leafB a = leafB b) : a = b := by cases a <;> cases b <;> first | rfl | (simp [leafB] at h)
theorem keyB_inj : ∀ {a b : List Bool}, a.map leafB = b.map leafB → a = b
  | [], [], _ => rfl
  | [], _ :: _, h => by simp at h
  | _ :: _, [], h => by simp at h
  | x :: a, y :: b, h => by
    simp only [List.map_cons, List.cons.injEq] at h
    rw [leafB_inj h.1, keyB_inj h.2]
theorem itemsB {P : Program} {w : World} : ∀ {bs : List Bool} {us : List Value}, Vals (bs.map V.bl) us → ItemsAre (leafKind P w) (bs.map leafB) us
  | [], _, .nil => .nil
  | b :: bs, _, .cons r1 r2 => by
    cases r1
    refine .cons ?_ (itemsB r2)
    cases b <;> rfl
/-- a dict whose keys are tuples of truth values, its values texts: its own object -/
def DTb (P : Program) (w : World) (d : Addr) (xs : List (List Bool × Addr × Str)) : HO := .ext fun h => ∃ o es ep ys, h.get? d = some o ∧ o.ExactDict ∧ o.data = .dict es ep ∧ es.toList = ys.map (entryOfKey (lk P w)) ∧
  Paired (fun (x : List Bool × Addr × Str) (y : List Leaf × Addr × Value) => y.1 = x.1.map leafB ∧ y.2.1 = x.2.1 ∧ RelV (.str x.2.2) y.2.2) xs ys
variable {X : Cx} {pins : List (Addr × Obj)} {σ : L2.St} {H : Hp} {s : Shared}
theorem key_tracked {t : Addr} {bs : List Bool} (I : Inv X pins σ H s) (ht : H t = some (.tup (bs.map V.bl))) : (lk X.prog X.w).is s.heap (bs.map leafB) t := by
  obtain ⟨its, r, ⟨o, e1, e2, n, e3⟩, _⟩ := I.tuple (.inl (.inl ht))
  exact ⟨o, _, n, e1, e2, e3, by simpa using itemsB r⟩
theorem at_none {xs : List (List Leaf × Addr × Value)} {k : List Leaf} (h : k ∉ xs.map (·.1)) : atKey xs k = none := by
  unfold atKey
  rw [Option.map_eq_none_iff, List.find?_eq_none]
  intro x hx e
  exact h (List.mem_map.mpr ⟨x, hx, of_decide_eq_true e⟩)
theorem stored_new : ∀ (ps acc : List (List Leaf × Addr × Value)), ((acc ++ ps).map (·.1)).Nodup → storedAllH acc ps = acc ++ ps
  | [], acc, _ => by unfold storedAllH; simp
  | p :: ps, acc, h => by
    have h1 : p.1 ∉ acc.map (·.1) := fun q => by
      rw [List.map_append, List.nodup_append] at h
      exact h.2.2 _ q _ (by simp) rfl
    show storedAllH (storedH acc p.1 p.2.1 p.2.2) ps = _
    rw [storedH_new (at_none h1), stored_new ps _ (by simpa using h)]
    simp
theorem carriesB {P : Program} {w : World} {h : Heap} : ∀ {xs : List (List Bool × Addr × Str)} {ws : List (Value × Value)}, VV (xs.map fun x => (V.ref x.2.1, V.str x.2.2)) ws → (∀ x ∈ xs, (lk P w).is h (x.1.map leafB) x.2.1) →
    ∃ ys, CarriesH (lk P w) h ws ys ∧ Paired (fun (x : List Bool × Addr × Str) (y : List Leaf × Addr × Value) => y.1 = x.1.map leafB ∧ y.2.1 = x.2.1 ∧ RelV (.str x.2.2) y.2.2) xs ys
  | [], _, .nil, _ => ⟨[], trivial, .nil⟩
  | x :: xs, _, .cons (b := q) r1 r2, k => by
    obtain ⟨ys, c, p⟩ := carriesB r2 fun z hz => k z (List.mem_cons_of_mem _ hz)
    obtain ⟨u, v⟩ := q
    obtain ⟨ru, rv⟩ := r1
    exact ⟨(x.1.map leafB, x.2.1, v) :: ys, ⟨ru, rfl, k x List.mem_cons_self, c⟩, .cons ⟨rfl, rfl, rv⟩ p⟩
theorem keysB : ∀ {xs : List (List Bool × Addr × Str)} {ys : List (List Leaf × Addr × Value)}, Paired (fun (x : List Bool × Addr × Str) (y : List Leaf × Addr × Value) => y.1 = x.1.map leafB ∧ y.2.1 = x.2.1 ∧ RelV (.str x.2.2) y.2.2) xs ys →
    (xs.map (·.1)).Nodup → (ys.map (·.1)).Nodup
  | _, _, .nil, _ => List.nodup_nil
  | _, _, .cons (a := x) (b := y) (l₁ := xs) (l₂ := ys) r1 r2, h => by
    rw [List.map_cons, List.nodup_cons] at h ⊢
    refine ⟨fun q => h.1 ?_, keysB r2 h.2⟩
    obtain ⟨z, hz, e⟩ := List.mem_map.mp q
    obtain ⟨x', hx', e2⟩ : ∃ x' ∈ xs, z.1 = x'.1.map leafB := by
      clear h q
      induction r2 with
      | nil => simp at hz
      | cons a b ih =>
        rcases List.mem_cons.mp hz with rfl | hz
        · exact ⟨_, List.mem_cons_self, a.1⟩
        · obtain ⟨w, hw, e⟩ := ih hz
          exact ⟨w, List.mem_cons_of_mem _ hw, e⟩
    rw [r1.1, e2] at e
    exact List.mem_map.mpr ⟨x', hx', keyB_inj e⟩
def tDispB (P : Program) (w : World) (trs : List (TE × TE)) : TE := fun σ H Q => ∀ d, H d = none → tPairs trs σ (upd H d (.dK [])) fun ps H2 => H2 d = some (.dK []) ∧ ∃ xs : List (List Bool × Addr × Str), ps = xs.map (fun x => (V.ref x.2.1, V.str x.2.2)) ∧
  (∀ x ∈ xs, H2 x.2.1 = some (.tup (x.1.map V.bl))) ∧ (xs.map (·.1)).Nodup ∧ xs.length ≤ 15 ∧ (d ≠ sysModules → Q (.ref d) (upd H2 d (DTb P w d xs)))
theorem pe_dispB {pos : Pos} {keys : List (Option Expr)} {values : List Expr} {trs : List (TE × TE)} (h : PPs X pos keys values trs) (hu : X.A.units < cLine) (all : keys.all (·.isSome) = true := by rfl) (len : keys.length = values.length := by rfl) (ne : keys ≠ [] := by exact fun z => nomatch z)
    (few : keys.length ≤ 15 := by decide) : PE X (.Dict keys values pos) (tDispB X.prog X.w trs) := by
  constructor
  intro pins s σ H Q I q
  have fresh := I.hok.fresh (Nat.le_refl s.heap.objs.size)
  have I1 := I.laid (a := s.heap.objs.size) (o := .dK []) (h' := s.heap.push { cls := .type "dict", data := .dict #[] }) (t' := s.toks) (fun _ _ z => Heap.get?_push_of_some _ z) (Nat.le_refl _) (dk_empty s.heap I.big)
  have hn := pairTrees_length keys values X.env pos all len
  have n0 : pairTrees keys values X.env pos ≠ [] := fun z => by
    rw [z] at hn
    exact ne (List.length_eq_zero_iff.mp hn.symm)
  rw [arm_eval_Dict, zip_pairTrees keys values X.env pos all len, dictDisplay_pairs _ n0 (by rw [hn]; omega)]
  refine wpAny_bind (wpAny_standAt (wpAny_bind (wpAny_subDictH (knd := lk X.prog X.w) (Q := fun d s' => wpAny (model X.prog X.w) X.A (pure (Value.ref d)) (EP X pins σ Q) X.xe s') hu (by rw [hn]; exact few) (thn (h.run pins _ σ _ _ I1 (q _ fresh)) fun ws s2 z => ?_))))
  obtain ⟨ps, H2, I2, rel, e, xs, ep, tr, nd, l15, q2⟩ := z
  subst ep
  obtain ⟨ys, cr, pr⟩ := carriesB (P := X.prog) (w := X.w) (h := s2.heap) rel fun x hx => key_tracked I2 (tr x hx)
  obtain ⟨_, nsys, vs0, r0, o, es, en, h1, h2, h3, _, h4, _⟩ := dk_of I2.hok e
  cases r0
  refine ⟨ys, cr, ?_, fun h' tk dd sb => wpAny_pure ⟨.ref s.heap.objs.size, upd H2 s.heap.objs.size (DTb X.prog X.w s.heap.objs.size xs), ?_, rfl, q2 (by simpa using nsys)⟩⟩
  · refine ⟨o, es, en, h1, h2, h3, ?_, by simp, by simp⟩
    cases z4 : es.toList with
    | nil => rfl
    | cons a b => rw [z4] at h4; cases h4
  · rw [stored_new ys [] (by simpa using keysB pr nd), List.nil_append] at dd
    obtain ⟨o', es', en', g1, g2, g3, g4, _, _⟩ := dd
    exact d_write I2 (by rw [e]; exact True.intro) sb ⟨_, g1⟩ ⟨⟨o', es', en', ys, g1, g2, g3, g4, pr⟩, ⟨_, g1⟩, fun ha hb ⟨o2, es2, en2, ys2, k1, k2⟩ k => ⟨o2, es2, en2, ys2, k _ k1, k2⟩⟩
def getB (xs : List (List Bool × Addr × Str)) (bs : List Bool) (st : Str) : Str := ((xs.find? fun x => decide (x.1 = bs)).map (·.2.2)).getD st
theorem at_pairB {bs : List Bool} {st : Str} {u : Value} (ru : RelV (.str st) u) : ∀ {xs : List (List Bool × Addr × Str)} {ys : List (List Leaf × Addr × Value)}, Paired (fun (x : List Bool × Addr × Str) (y : List Leaf × Addr × Value) => y.1 = x.1.map leafB ∧ y.2.1 = x.2.1 ∧ RelV (.str x.2.2) y.2.2) xs ys →
    RelV (.str (getB xs bs st)) (((atKey ys (bs.map leafB)).map (·.2)).getD u)
  | _, _, .nil => ru
  | _, _, .cons (a := x) (b := y) (l₁ := xs) (l₂ := ys) r1 r2 => by
    have ih := at_pairB (bs := bs) ru r2
    unfold getB atKey at *
    by_cases e : x.1 = bs
    · rw [List.find?_cons_of_pos (by simpa using e), List.find?_cons_of_pos (by simp [r1.1, e])]
      exact r1.2.2
    · rw [List.find?_cons_of_neg (by simpa using e), List.find?_cons_of_neg (by
        simp only [r1.1, decide_eq_true_eq]
        exact fun z => e (keyB_inj z))]
      exact ih
def tGetB (P : Program) (w : World) (to te tf : TE) : TE := fun σ H Q => to σ H fun x H1 => ∃ d xs, x = .ref d ∧ d ≠ sysModules ∧ H1 d = some (DTb P w d xs) ∧ te σ H1 fun y H2 => tf σ H2 fun z H3 => H3 d = some (DTb P w d xs) ∧
  (∀ x ∈ xs, H3 x.2.1 = some (.tup (x.1.map V.bl))) ∧ (xs.map (·.1)).Nodup ∧ ∃ t bs st, y = .ref t ∧ z = .str st ∧ H3 t = some (.tup (bs.map V.bl)) ∧ Q (.str (getB xs bs st)) H3
theorem dtb_at {d : Addr} {xs : List (List Bool × Addr × Str)} (I : Inv X pins σ H s) (hd : H d = some (DTb X.prog X.w d xs)) : ∃ o es ep ys, s.heap.get? d = some o ∧ o.ExactDict ∧ o.data = .dict es ep ∧ es.toList = ys.map (entryOfKey (lk X.prog X.w)) ∧
    Paired (fun (x : List Bool × Addr × Str) (y : List Leaf × Addr × Value) => y.1 = x.1.map leafB ∧ y.2.1 = x.2.1 ∧ RelV (.str x.2.2) y.2.2) xs ys := by
  obtain ⟨z, _⟩ := I.hok d _ hd
  exact z
theorem all_tracked (I : Inv X pins σ H s) : ∀ {xs : List (List Bool × Addr × Str)} {ys : List (List Leaf × Addr × Value)}, Paired (fun (x : List Bool × Addr × Str) (y : List Leaf × Addr × Value) => y.1 = x.1.map leafB ∧ y.2.1 = x.2.1 ∧ RelV (.str x.2.2) y.2.2) xs ys →
    (∀ x ∈ xs, H x.2.1 = some (.tup (x.1.map V.bl))) → ∀ y ∈ ys, (lk X.prog X.w).is s.heap y.1 y.2.1
  | _, _, .nil, _, y, hy => by simp at hy
  | _, _, .cons a b, tr, y, hy => by
    rcases List.mem_cons.mp hy with rfl | hy
    · rw [a.1, a.2.1]
      exact key_tracked I (tr _ List.mem_cons_self)
    · exact all_tracked I b (fun x hx => tr x (List.mem_cons_of_mem _ hx)) y hy
theorem pe_getB {o e f : Expr} {to te tf : TE} {apos cpos : Pos} (hu : X.A.units + 1 < cLine) (ho : PE X o to) (he : PE X e te) (hf : PE X f tf) (m : M2 X o "get" apos e f cpos) : PE X (.Call (.Attribute o "get" apos) [e, f] [] cpos) (tGetB X.prog X.w to te tf) := by
  constructor
  intro pins s σ H Q I h
  refine wpAny_Call_method m.base m.few m.line PySem.F.plainAttrs_dict PySem.F.slot_dict_get PySem.F.type_dict_get (thn (ho.run pins s σ H _ I h) fun u s1 z => ?_)
  obtain ⟨x, H1, I1, rx, d, xs, rfl, dn, hd, q1⟩ := z
  obtain rfl : u = Value.ref d := rx
  obtain ⟨o1, es1, ep1, ys1, k1, k2, k3, k4, k5⟩ := dtb_at I1 hd
  refine ⟨⟨o1, k1, k2.1⟩, fun b q => ?_, ?_⟩
  · cases q
    exact ⟨o1, k1, k2.2.1⟩
  rw [m.trees]
  refine wpAny_dict_get2_heap (knd := lk X.prog X.w) (show X.A.units + 1 < cLine from hu) (by simpa using dn) (thn (he.run pins s1 σ H1 _ I1 q1) fun ku s2 z => ?_)
  obtain ⟨y, H2, I2, ry, q2⟩ := z
  refine thn (hf.run pins s2 σ H2 _ I2 q2) fun fu s3 z => ?_
  obtain ⟨z', H3, I3, rz, hd3, tr, nd, t, bs, st, rfl, rfl, ht, q3⟩ := z
  cases ry
  obtain ⟨o3, es3, ep3, ys3, j1, j2, j3, j4, j5⟩ := dtb_at I3 hd3
  have is := all_tracked I3 j5 tr
  exact ⟨t, bs.map leafB, ys3, rfl, key_tracked I3 ht, ⟨o3, es3, ep3, j1, j2, j3, j4, is, keysB j5 nd⟩, .str (getB xs bs st), H3, I3.tok _, at_pairB rz j5, q3⟩
end
end Q7
set_option maxRecDepth 100000
set_option maxHeartbeats 4000000
namespace Q7
open PySem PySem.Spec PyProof.Rows L2
/-! ### a head's facts with the modules' dict among them -/
def hookY (n : Nat) (fa : List He.Fa) (fn : List He.DefD) (ex : List Tst) : PySem.W.Hook where
  α := He.AlD × Bool
  obs := fun s => (He.obsD fa fn (He.frG s.heap.get? (sysModules :: He.asD s.heap.get? n)), ex.all fun f => f (He.frG s.heap.get? (sysModules :: He.asD s.heap.get? n)))
  val := fun _ => (He.valD fn, true)
  says := fun _ h => ∃ K : PySem.W.Frag, K.In h ∧ He.SaysD fa fn K ∧ (ex.all fun f => f K) = true
  of := fun _ _ e => ⟨_, He.frG_in, congrArg (fun z : He.AlD × Bool => z.1) e, congrArg (fun z : He.AlD × Bool => z.2) e⟩
  keeps := fun _ _ _ ⟨K, hK, c⟩ k => ⟨K, PySem.W.Frag.In.keeps hK k, c⟩
def obY (n : Nat) (fa : List He.Fa) (fn : List He.DefD) (ex : List Tst) (g : Addr → Option Obj) : He.AlD × Bool := (He.obsD fa fn (He.frG g (sysModules :: He.asD g n)), ex.all fun f => f (He.frG g (sysModules :: He.asD g n)))
theorem obY_eq {n : Nat} {fa : List He.Fa} {fn : List He.DefD} {ex : List Tst} {g : Addr → Option Obj} {s : Shared} (h : ∀ a, g a = s.heap.get? a) : obY n fa fn ex g = (hookY n fa fn ex).obs s := by
  have e : g = s.heap.get? := funext h
  rw [e] <;> rfl
/-- the modules' dict stands in the written part -/
def SysD (K : PySem.W.Frag) : Prop := ∃ o, K.lookup sysModules = some o ∧ o.cls = .type "dict"
def tSys : Tst := fun K => match K.lookup sysModules with
  | some ⟨.type c, _, _, _⟩ => decide (c = "dict")
  | _ => false
theorem tSys_ok {K : PySem.W.Frag} (c : tSys K = true) : SysD K := by
  unfold tSys at c
  split at c
  · rename_i e
    exact ⟨_, e, by rw [of_decide_eq_true c]⟩
  · cases c
/-! ### data with dicts in them -/
def kD : Key → PyData
  | .inl i => .int i
  | .inr x => .str x
section
variable (K : PySem.W.Frag) (H : Hp)
mutual
inductive DpW : V → PyData → Prop
  | non : DpW .non .none
  | bl (b : Bool) : DpW (.bl b) (.bool b)
  | int (i : Int) : DpW (.int i) (.int i)
  | str (x : Str) : DpW (.str x) (.str x)
  | lst {a : Addr} {xs : List V} {ds : List PyData} : SqL K H a xs → DpWs xs ds → DpW (.ref a) (.list ds)
  | tup {a : Addr} {xs : List V} {ds : List PyData} : SqT K H a xs → DpWs xs ds → DpW (.ref a) (.tuple ds)
  | dct {a : Addr} {kvs : List (Key × V)} {es : List (PyData × PyData)} : H a = some (.dK kvs) → DpWk kvs es → DpW (.ref a) (.dict es)
inductive DpWs : List V → List PyData → Prop
  | nil : DpWs [] []
  | cons {v : V} {vs : List V} {d : PyData} {ds : List PyData} : DpW v d → DpWs vs ds → DpWs (v :: vs) (d :: ds)
inductive DpWk : List (Key × V) → List (PyData × PyData) → Prop
  | nil : DpWk [] []
  | cons {k : Key} {v : V} {kvs : List (Key × V)} {d : PyData} {es : List (PyData × PyData)} : DpW v d → DpWk kvs es → DpWk ((k, v) :: kvs) ((kD k, d) :: es)
end
end
section
variable {K : PySem.W.Frag} {H H' : Hp}
mutual
theorem dpW_same (s : Same H H') : ∀ {v : V} {d : PyData}, DpW K H v d → DpW K H' v d
  | _, _, .non => .non
  | _, _, .bl b => .bl b
  | _, _, .int i => .int i
  | _, _, .str x => .str x
  | _, _, .lst a b => .lst (sqL_same s a) (dpWs_same s b)
  | _, _, .tup a b => .tup (sqT_same s a) (dpWs_same s b)
  | _, _, .dct a b => .dct (s _ _ a) (dpWk_same s b)
theorem dpWs_same (s : Same H H') : ∀ {vs : List V} {ds : List PyData}, DpWs K H vs ds → DpWs K H' vs ds
  | _, _, .nil => .nil
  | _, _, .cons a b => .cons (dpW_same s a) (dpWs_same s b)
theorem dpWk_same (s : Same H H') : ∀ {vs : List (Key × V)} {ds : List (PyData × PyData)}, DpWk K H vs ds → DpWk K H' vs ds
  | _, _, .nil => .nil
  | _, _, .cons a b => .cons (dpW_same s a) (dpWk_same s b)
end
theorem dpWs_app : ∀ {vs us : List V} {ds es : List PyData}, DpWs K H vs ds → DpWs K H us es → DpWs K H (vs ++ us) (ds ++ es)
  | _, _, _, _, .nil, h => h
  | _, _, _, _, .cons a b, h => .cons a (dpWs_app b h)
mutual
theorem dp_dpW : ∀ {v : V} {d : PyData}, Dp K H v d → DpW K H v d
  | _, _, .non => .non
  | _, _, .bl b => .bl b
  | _, _, .int i => .int i
  | _, _, .str x => .str x
  | _, _, .lst a b => .lst a (dpAll_dpW b)
  | _, _, .tup a b => .tup a (dpAll_dpW b)
theorem dpAll_dpW : ∀ {vs : List V} {ds : List PyData}, DpAll K H vs ds → DpWs K H vs ds
  | _, _, .nil => .nil
  | _, _, .cons a b => .cons (dp_dpW a) (dpAll_dpW b)
end
theorem dpW_fr {v : V} {q : Rat} (h : FrV K H v q) : DpW K H v (fr q) := dp_dpW (frV_dp h)
theorem dpW_pr {v : V} {t : Int × Rat} (h : PrV K H v t) : DpW K H v (pr t) := dp_dpW (prV_dp h)
theorem dpWs_prs : ∀ {xs : List V} {ps : Rw}, PrsV K H xs ps → DpWs K H xs (ps.map pr)
  | _, _, .nil => .nil
  | _, _, .cons h r => .cons (dpW_pr h) (dpWs_prs r)
end
theorem sys_none {X : Cx} {pins : List (Addr × Obj)} {σ : L2.St} {H : Hp} {s : Shared} (I : Inv X pins σ H s) (y : SysD X.K) : H sysModules = none := by
  obtain ⟨o, e, _⟩ := y
  exact (I.bs _ _ (I.ok.mod.kin _ _ e)).2
theorem lst_sys {X : Cx} {pins : List (Addr × Obj)} {σ : L2.St} {H : Hp} {s : Shared} (I : Inv X pins σ H s) (y : SysD X.K) {a : Addr} {xs : List V} (h : SqL X.K H a xs) : a ≠ sysModules := by
  intro e
  subst e
  have n := sys_none I y
  rcases h with (h | ⟨o, h⟩) | ⟨o, us, m, h, hc, _⟩
  · rw [n] at h; cases h
  · rw [n] at h; cases h
  · obtain ⟨u, e1, e2⟩ := y
    rw [e1] at h
    cases h
    rw [e2] at hc
    exact absurd hc (by decide)
theorem sqL_obj {X : Cx} {pins : List (Addr × Obj)} {σ : L2.St} {H : Hp} {s : Shared} {a : Addr} {xs : List V} (I : Inv X pins σ H s) (h : SqL X.K H a xs) : ∃ o us n, s.heap.get? a = some o ∧ o.cls = .type "list" ∧ o.data = .seq us n ∧ Vals xs us.toList := by
  obtain ⟨its, r, ⟨⟨oc, od, dt, sl⟩, n, e1, e2, e3, e4⟩, _⟩ := I.list h
  simp only at e2 e3 e4
  subst e2 e4
  exact ⟨_, _, n, e1, rfl, rfl, by simpa using r⟩
section
variable {X : Cx} {pins : List (Addr × Obj)} {σ : L2.St} {H : Hp} {s : Shared}
theorem kv_keys {h : Heap} : ∀ {kvs : List (Key × V)} {vs : List (Key × Value)} {es : List DictEntry}, KV kvs vs → Pairs (mixKind X.prog X.w) es vs → ReadsAll h (es.map (·.key)) (kvs.map fun p => kD p.1) [] ∧ Vals (kvs.map (·.2)) (es.map (·.val))
  | [], _, _, r, p => by
    cases r
    cases p
    exact ⟨.nil, .nil⟩
  | q :: kvs, _, _, r, p => by
    cases r with
    | cons r1 r2 =>
      cases p with
      | cons p1 p2 p3 =>
        obtain ⟨i1, i2⟩ := kv_keys (h := h) r2 p3
        have p1 : keyIs _ _ = true := p1
        rw [← r1.1] at p1
        refine ⟨?_, ?_⟩
        · simp only [List.map_cons]
          rcases keyIs_shape p1 with ⟨i, t, a1, a2⟩ | ⟨x, t, a1, a2⟩
          · rw [a1, a2]
            exact .cons (.int _ _) i1
          · rw [a1, a2]
            exact .cons (.str _ _) i1
        · simp only [List.map_cons]
          rw [p2]
          exact .cons r1.2 i2
mutual
theorem dpW_reads (I : Inv X pins σ H s) (y : SysD X.K) : ∀ {v : V} {d : PyData} {u : Value}, DpW X.K H v d → RelV v u → ∃ as, Reads s.heap u d as ∧ sysModules ∉ as
  | _, _, _, .non, r => by cases r; exact ⟨[], .none, List.not_mem_nil⟩
  | _, _, _, .bl b, r => by cases r; exact ⟨[], .bool b, List.not_mem_nil⟩
  | _, _, _, .int i, r => by obtain ⟨t, rfl⟩ := r; exact ⟨[], .int i t, List.not_mem_nil⟩
  | _, _, _, .str x, r => by obtain ⟨t, rfl⟩ := r; exact ⟨[], .str x t, List.not_mem_nil⟩
  | _, _, _, .lst (a := a) h ds, r => by
    cases r
    obtain ⟨o, us, n, g, c, d, rv⟩ := sqL_obj I h
    obtain ⟨as, q, hn⟩ := dpWs_reads I y ds rv
    refine ⟨a :: as, .list g c d q, fun z => ?_⟩
    rcases List.mem_cons.mp z with z | z
    · exact lst_sys I y h z.symm
    · exact hn z
  | _, _, _, .tup h ds, r => by
    cases r
    obtain ⟨o, us, n, g, c, d, rv⟩ := sqT_obj I h
    obtain ⟨as, q, hn⟩ := dpWs_reads I y ds rv
    exact ⟨as, .tuple g c d q, hn⟩
  | _, _, _, .dct (a := a) (kvs := kvs) h ks, r => by
    cases r
    obtain ⟨_, nsys, vs, kv, o, es, ep, h1, h2, h3, _, prs, _⟩ := (show ObjOk X.prog X.w H s.heap a (.dK kvs) from I.hok a _ h)
    obtain ⟨k1, k2⟩ := kv_keys (X := X) (h := s.heap) kv prs
    obtain ⟨as, q, hn, ek⟩ := dpWk_reads I y ks k2
    refine ⟨_, Reads.dict h1 h2.1 h3 (by rw [← ek]; exact k1) q, fun m => ?_⟩
    simp only [List.append_nil, List.cons_append, List.nil_append, List.mem_cons] at m
    rcases m with m | m
    · rw [← m] at nsys
      simp at nsys
    · exact hn m
theorem dpWs_reads (I : Inv X pins σ H s) (y : SysD X.K) : ∀ {vs : List V} {ds : List PyData} {us : List Value}, DpWs X.K H vs ds → Vals vs us → ∃ as, ReadsAll s.heap us ds as ∧ sysModules ∉ as
  | _, _, _, .nil, r => by cases r; exact ⟨[], .nil, List.not_mem_nil⟩
  | _, _, _, .cons a b, r => by
    cases r with
    | cons r1 r2 =>
      obtain ⟨as, q1, n1⟩ := dpW_reads I y a r1
      obtain ⟨bs, q2, n2⟩ := dpWs_reads I y b r2
      exact ⟨_, .cons q1 q2, fun z => (List.mem_append.mp z).elim n1 n2⟩
theorem dpWk_reads (I : Inv X pins σ H s) (y : SysD X.K) : ∀ {kvs : List (Key × V)} {es : List (PyData × PyData)} {us : List Value}, DpWk X.K H kvs es → Vals (kvs.map (·.2)) us → ∃ as, ReadsAll s.heap us (es.map (·.2)) as ∧ sysModules ∉ as ∧ (kvs.map fun p => kD p.1) = es.map (·.1)
  | _, _, _, .nil, r => by cases r; exact ⟨[], .nil, List.not_mem_nil, rfl⟩
  | _, _, _, .cons a b, r => by
    rw [List.map_cons] at r
    cases r with
    | cons r1 r2 =>
      obtain ⟨as, q1, n1⟩ := dpW_reads I y a r1
      obtain ⟨bs, q2, n2, e⟩ := dpWk_reads I y b r2
      exact ⟨_, .cons q1 q2, fun z => (List.mem_append.mp z).elim n1 n2, by simp only [List.map_cons, e]⟩
end
end
/-- small enough to be shown -/
structure Shw (d : PyData) : Prop where
  sh : d.showable = true
  dp : d.depth ≤ 40
  ln : d.shown.length + 64 ≤ sizeLine
def rReprW (K : PySem.W.Frag) : List V → Hp → VK → Prop := fun as H Q => ∃ v d, as = [v] ∧ DpW K H v d ∧ Shw d ∧ Q (.str d.shown) H
theorem call_reprW {X : Cx} (y : SysD X.K) (g : X.A.guards = some []) (hu : X.A.units + 70 < cLine) : CallR X (.builtin "repr") (rReprW X.K) := by
  intro pins s σ H as us Q I r h
  obtain ⟨v, d, rfl, dp, ⟨sh, dep, sz⟩, q⟩ := h
  obtain ⟨u, rfl, rel⟩ := vals1 r
  obtain ⟨bs, rd, hsm⟩ := dpW_reads I y dp rel
  cases rd with
  | none => exact PySem.P.repr_of_none ⟨.str _, H, I.tok _, ⟨_, rfl⟩, q⟩
  | bool b => exact PySem.P.repr_of_bool ⟨.str _, H, I.tok _, ⟨_, rfl⟩, q⟩
  | int i t => exact PySem.P.repr_of_int (of_decide_eq_true sh) ⟨.str _, H, I.tok _, ⟨_, rfl⟩, q⟩
  | str x t => exact PySem.P.repr_of_str ⟨.str _, H, I.tok _, ⟨_, rfl⟩, q⟩ (by have : (reprText x).length + 64 ≤ sizeLine := sz; omega)
  | list a1 a2 a3 a4 => exact repr_of_reads' (.list a1 a2 a3 a4) sh (fun _ => hsm) g (by omega) (fun _ _ z => z) (fun h' u tk kp => ⟨.str _, H, I.kept (t' := tk) kp, ⟨_, rfl⟩, q⟩) (by omega)
  | tuple a1 a2 a3 a4 => exact repr_of_reads' (.tuple a1 a2 a3 a4) sh (fun _ => hsm) g (by omega) (fun _ _ z => z) (fun h' u tk kp => ⟨.str _, H, I.kept (t' := tk) kp, ⟨_, rfl⟩, q⟩) (by omega)
  | dict a1 a2 a3 a4 a5 => exact repr_of_reads' (.dict a1 a2 a3 a4 a5) sh (fun _ => hsm) g (by omega) (fun _ _ z => z) (fun h' u tk kp => ⟨.str _, H, I.kept (t' := tk) kp, ⟨_, rfl⟩, q⟩) (by omega)
/-! ### how large data is -/
structure Sz8 (n m : Nat) (d : PyData) : Prop where
  sh : d.showable = true
  lf : d.leavesShort 1921 = true
  bk : d.bulk ≤ n
  dp : d.depth ≤ m
structure Sz8s (n m : Nat) (ds : List PyData) : Prop where
  sh : PyData.showableAll ds = true
  lf : PyData.leavesShortAll 1921 ds = true
  bk : PyData.bulkAll ds ≤ n
  dp : PyData.depthAll ds ≤ m
structure Sz8k (n m : Nat) (es : List (PyData × PyData)) : Prop where
  sh : PyData.showableKv es = true
  lf : PyData.leavesShortKv 1921 es = true
  bk : PyData.bulkKv es ≤ n
  dp : PyData.depthKv es ≤ m
theorem Sz8.mono {n m n' m' : Nat} {d : PyData} (h : Sz8 n m d) (hn : n ≤ n' := by decide) (hm : m ≤ m' := by decide) : Sz8 n' m' d := ⟨h.sh, h.lf, Nat.le_trans h.bk hn, Nat.le_trans h.dp hm⟩
theorem Sz8s.mono {n m n' m' : Nat} {d : List PyData} (h : Sz8s n m d) (hn : n ≤ n' := by decide) (hm : m ≤ m' := by decide) : Sz8s n' m' d := ⟨h.sh, h.lf, Nat.le_trans h.bk hn, Nat.le_trans h.dp hm⟩
theorem Sz8.shw {n m : Nat} {d : PyData} (h : Sz8 n m d) (hn : n ≤ 8000 := by decide) (hm : m ≤ 40 := by decide) : Shw d := by
  refine ⟨h.sh, Nat.le_trans h.dp hm, ?_⟩
  have h1 := PyData.shown_le_bulk 1921 (by decide) d h.lf
  have h3 : (1921 + 2) * 8000 + 1921 + 64 ≤ sizeLine := by decide
  have h4 : (1921 + 2) * d.bulk ≤ (1921 + 2) * 8000 := Nat.mul_le_mul (Nat.le_refl _) (Nat.le_trans h.bk hn)
  omega
theorem SmI.z {n m : Nat} {d : PyData} (h : SmI n m d) : Sz8 n m d := ⟨h.sh, h.lf, h.bk, h.dp⟩
theorem sz_nil : Sz8s 0 0 [] := ⟨by simp [PyData.showableAll], by simp [PyData.leavesShortAll], by simp [PyData.bulkAll], by simp [PyData.depthAll]⟩
theorem sz_cons {n m k l : Nat} {d : PyData} {ds : List PyData} (h : Sz8 n m d) (hs : Sz8s k l ds) : Sz8s (n + k + 1) (max m l) (d :: ds) := by
  refine ⟨?_, ?_, ?_, ?_⟩
  · simp only [PyData.showableAll, h.sh, hs.sh, Bool.and_self]
  · simp only [PyData.leavesShortAll, h.lf, hs.lf, Bool.and_self]
  · have := h.bk; have := hs.bk; simp only [PyData.bulkAll]; omega
  · have := h.dp; have := hs.dp; simp only [PyData.depthAll]; omega
theorem sz_app {n m k l : Nat} : ∀ {ds es : List PyData}, Sz8s n m ds → Sz8s k l es → Sz8s (n + k) (max m l) (ds ++ es)
  | [], es, _, h => h.mono (by omega) (by omega)
  | d :: ds, es, h1, h2 => by
    have a1 := h1.sh; have a2 := h1.lf; have a3 := h1.bk; have a4 := h1.dp
    simp only [PyData.showableAll, Bool.and_eq_true] at a1
    simp only [PyData.leavesShortAll, Bool.and_eq_true] at a2
    simp only [PyData.bulkAll] at a3
    simp only [PyData.depthAll] at a4
    have ih := sz_app (n := n - d.bulk - 1) (m := m) ⟨a1.2, a2.2, by omega, by omega⟩ h2
    have i3 := ih.bk; have i4 := ih.dp
    refine ⟨?_, ?_, ?_, ?_⟩
    · simp only [List.cons_append, PyData.showableAll, a1.1, ih.sh, Bool.and_self]
    · simp only [List.cons_append, PyData.leavesShortAll, a2.1, ih.lf, Bool.and_self]
    · simp only [List.cons_append, PyData.bulkAll]; omega
    · simp only [List.cons_append, PyData.depthAll]; omega
theorem sz_all {n m : Nat} : ∀ {ds : List PyData}, (∀ d ∈ ds, Sz8 n m d) → Sz8s ((n + 1) * ds.length) m ds
  | [], _ => sz_nil.mono (Nat.zero_le _) (Nat.zero_le _)
  | d :: ds, h => by
    have h1 := sz_cons (h d List.mem_cons_self) (sz_all (ds := ds) fun x hx => h x (List.mem_cons_of_mem _ hx))
    refine h1.mono ?_ (by omega)
    rw [List.length_cons, Nat.mul_add]
    omega
theorem sz_lst {n m : Nat} {ds : List PyData} (h : Sz8s n m ds) : Sz8 n (m + 1) (.list ds) := by
  refine ⟨?_, ?_, ?_, ?_⟩
  · simp only [PyData.showable]; exact h.sh
  · simp only [PyData.leavesShort]; exact h.lf
  · have := h.bk; simp only [PyData.bulk]; omega
  · have := h.dp; simp only [PyData.depth]; omega
theorem sz_tup {n m : Nat} {ds : List PyData} (h : Sz8s n m ds) : Sz8 n (m + 1) (.tuple ds) := by
  refine ⟨?_, ?_, ?_, ?_⟩
  · simp only [PyData.showable]; exact h.sh
  · simp only [PyData.leavesShort]; exact h.lf
  · have := h.bk; simp only [PyData.bulk]; omega
  · have := h.dp; simp only [PyData.depth]; omega
theorem szk_nil : Sz8k 0 0 [] := ⟨by simp [PyData.showableKv], by simp [PyData.leavesShortKv], by simp [PyData.bulkKv], by simp [PyData.depthKv]⟩
theorem szk_cons {a b n m k l : Nat} {d e : PyData} {es : List (PyData × PyData)} (h1 : Sz8 a b d) (h : Sz8 n m e) (hs : Sz8k k l es) : Sz8k (a + n + k + 2) (max b (max m l)) ((d, e) :: es) := by
  refine ⟨?_, ?_, ?_, ?_⟩
  · simp only [PyData.showableKv, h1.sh, h.sh, hs.sh, Bool.and_self]
  · simp only [PyData.leavesShortKv, h1.lf, h.lf, hs.lf, Bool.and_self]
  · have := h1.bk; have := h.bk; have := hs.bk; simp only [PyData.bulkKv]; omega
  · have := h1.dp; have := h.dp; have := hs.dp; simp only [PyData.depthKv]; omega
theorem szk_all {a b n m : Nat} : ∀ {es : List (PyData × PyData)}, (∀ p ∈ es, Sz8 a b p.1 ∧ Sz8 n m p.2) → Sz8k ((a + n + 2) * es.length) (max b m) es
  | [], _ => ⟨szk_nil.sh, szk_nil.lf, Nat.le_trans szk_nil.bk (Nat.zero_le _), Nat.le_trans szk_nil.dp (Nat.zero_le _)⟩
  | (d, e) :: es, h => by
    obtain ⟨h1, h2⟩ := h _ List.mem_cons_self
    have h3 := szk_cons h1 h2 (szk_all (es := es) fun x hx => h x (List.mem_cons_of_mem _ hx))
    refine ⟨h3.sh, h3.lf, Nat.le_trans h3.bk ?_, Nat.le_trans h3.dp (by omega)⟩
    rw [List.length_cons, Nat.mul_add]
    omega
theorem sz_dct {n m : Nat} {es : List (PyData × PyData)} (h : Sz8k n m es) : Sz8 n (m + 1) (.dict es) := by
  refine ⟨?_, ?_, ?_, ?_⟩
  · simp only [PyData.showable]; exact h.sh
  · simp only [PyData.leavesShort]; exact h.lf
  · have := h.bk; simp only [PyData.bulk]; omega
  · have := h.dp; simp only [PyData.depth]; omega
theorem sz_pr {p : Int × Rat} (h : ShP p) : Sz8 5 2 (pr p) := ⟨show_pr h, leaf_pr h, by simp [pr, fr, PyData.bulk, PyData.bulkAll], by simp [pr, fr, PyData.depth, PyData.depthAll]⟩
theorem sz_fr {q : Rat} (h1 : ShI q.num) (h2 : ShI q.den) : Sz8 4 1 (fr q) := by
  have h := sz_tup (sz_cons (sm_int h1).z (sz_cons (sm_int h2).z sz_nil))
  exact h.mono
def Stab (F : Hp → Prop) : Prop := ∀ A B, Same A B → F A → F B
def StabV (G : Hp → V → Prop) : Prop := ∀ A B v, Same A B → G A v → G B v
/-! ### what is drawn and made so far, of any sort: it stands in a part of the heap that the source is no part of -/
structure Wg (Fx : Hp → Prop) (Gd : Hp → V → Prop) (b : Addr) (H0 H1 H : Hp) (src : HO) (vs : List V) : Prop where
  sk : Same H1 H
  sb : ∀ y o, H0 y = some o → y ≠ b → H y = some o
  sr : H b = some src
  gh : ∃ G : Hp, Same G H ∧ G b = none ∧ Fx G ∧ ∀ v ∈ vs, Gd G v
/-- good of its kind, in such a part -/
def GdB (Gd : Hp → V → Prop) (b : Addr) (H : Hp) (v : V) : Prop := ∃ G : Hp, Same G H ∧ G b = none ∧ Gd G v
section
variable {Fx : Hp → Prop} {Gd : Hp → V → Prop} {b : Addr} {H0 H1 H H' : Hp} {src : HO} {vs : List V}
theorem Wg.same (W : Wg Fx Gd b H0 H1 H src vs) (s : Same H H') : Wg Fx Gd b H0 H1 H' src vs := by
  obtain ⟨G, sg, g0, f, a⟩ := W.gh
  exact ⟨W.sk.trans s, fun y o e n => s _ _ (W.sb y o e n), s _ _ W.sr, G, sg.trans s, g0, f, a⟩
theorem Wg.new {p : Addr} {o : HO} (W : Wg Fx Gd b H0 H1 H src vs) (hp : H p = none) : Wg Fx Gd b H0 H1 (upd H p o) src vs := W.same (same_new hp)
theorem Wg.put {p : Addr} {o : HO} (us : List V) (stF : Stab Fx) (st : StabV Gd) (W : Wg Fx Gd b H0 H1 H src vs) (hp : H p = none) (f : ∀ G : Hp, G p = none → Fx G → Fx (upd G p o) → ∀ v ∈ us, Gd (upd G p o) v) :
    Wg Fx Gd b H0 H1 (upd H p o) src (vs ++ us) := by
  obtain ⟨G, sg, g0, fx, a⟩ := W.gh
  have W2 := W.new (o := o) hp
  have gp : G p = none := by
    cases e : G p with
    | none => rfl
    | some u => rw [sg _ _ e] at hp; cases hp
  have pb : b ≠ p := fun e => by subst e; rw [W.sr] at hp; cases hp
  have s1 := same_new (o := o) gp
  refine ⟨W2.sk, W2.sb, W2.sr, upd G p o, fun y u e => ?_, by rw [upd_ne pb]; exact g0, stF _ _ s1 fx, fun u hu => ?_⟩
  · by_cases z : y = p
    · subst z
      rw [upd_same] at e ⊢
      exact e
    · rw [upd_ne z] at e ⊢
      exact sg _ _ e
  · rcases List.mem_append.mp hu with hu | hu
    · exact st _ _ _ s1 (a u hu)
    · exact f G gp fx (stF _ _ s1 fx) u hu
theorem Wg.aux {Fx' : Hp → Prop} {p : Addr} {o : HO} (stF : Stab Fx) (st : StabV Gd) (W : Wg Fx Gd b H0 H1 H src vs) (hp : H p = none) (f : ∀ G : Hp, Fx (upd G p o) → Fx' (upd G p o)) : Wg Fx' Gd b H0 H1 (upd H p o) src vs := by
  have W2 := W.put [] stF st hp (o := o) fun _ _ _ _ v hv => by cases hv
  obtain ⟨G, sg, g0, fx, a⟩ := W.gh
  have gp : G p = none := by
    cases e : G p with
    | none => rfl
    | some u => rw [sg _ _ e] at hp; cases hp
  have pb : b ≠ p := fun e => by subst e; rw [W.sr] at hp; cases hp
  refine ⟨W2.sk, W2.sb, W2.sr, upd G p o, fun y u e => ?_, by rw [upd_ne pb]; exact g0, f G (stF _ _ (same_new gp) fx), fun u hu => st _ _ _ (same_new gp) (a u hu)⟩
  by_cases z : y = p
  · subst z
    rw [upd_same] at e ⊢
    exact e
  · rw [upd_ne z] at e ⊢
    exact sg _ _ e
theorem Wg.one {p : Addr} {o : HO} {v : V} (stF : Stab Fx) (st : StabV Gd) (W : Wg Fx Gd b H0 H1 H src vs) (hp : H p = none) (f : ∀ G : Hp, Fx (upd G p o) → Gd (upd G p o) v) : Wg Fx Gd b H0 H1 (upd H p o) src (vs ++ [v]) :=
  W.put [v] stF st hp fun G _ _ fx u hu => by
    rw [List.mem_singleton] at hu
    subst hu
    exact f G fx
theorem upd_upd {H : Hp} {a : Addr} {o u : HO} : upd (upd H a o) a u = upd H a u := by
  funext y
  by_cases z : y = a
  · rw [z, upd_same, upd_same]
  · rw [upd_ne z, upd_ne z, upd_ne z]
theorem Wg.one2 {p : Addr} {o1 o : HO} {v : V} (stF : Stab Fx) (st : StabV Gd) (W : Wg Fx Gd b H0 H1 H src vs) (hp : H p = none) (f : ∀ G : Hp, Fx (upd G p o) → Gd (upd G p o) v) : Wg Fx Gd b H0 H1 (upd (upd H p o1) p o) src (vs ++ [v]) := by
  rw [upd_upd]
  exact W.one stF st hp f
theorem Wg.new2 {p : Addr} {o1 o : HO} (W : Wg Fx Gd b H0 H1 H src vs) (hp : H p = none) : Wg Fx Gd b H0 H1 (upd (upd H p o1) p o) src vs := by
  rw [upd_upd]
  exact W.new hp
theorem Wg.at (stF : Stab Fx) (W : Wg Fx Gd b H0 H1 H src vs) : Fx H := by
  obtain ⟨G, sg, _, fx, _⟩ := W.gh
  exact stF _ _ sg fx
theorem Wg.imp {Fx' : Hp → Prop} (W : Wg Fx Gd b H0 H1 H src vs) (f : ∀ G, Fx G → Fx' G) : Wg Fx' Gd b H0 H1 H src vs := by
  obtain ⟨G, sg, g0, fx, a⟩ := W.gh
  exact ⟨W.sk, W.sb, W.sr, G, sg, g0, f G fx, a⟩
theorem Wg.weak {us : List V} (W : Wg Fx Gd b H0 H1 H src vs) (h : ∀ u ∈ us, u ∈ vs) : Wg Fx Gd b H0 H1 H src us := by
  obtain ⟨G, sg, g0, fx, a⟩ := W.gh
  exact ⟨W.sk, W.sb, W.sr, G, sg, g0, fx, fun u hu => a u (h u hu)⟩
theorem Wg.add {v : V} (W : Wg Fx Gd b H0 H1 H src vs) (f : ∀ G : Hp, Fx G → Gd G v) : Wg Fx Gd b H0 H1 H src (vs ++ [v]) := by
  obtain ⟨G, sg, g0, fx, a⟩ := W.gh
  refine ⟨W.sk, W.sb, W.sr, G, sg, g0, fx, fun u hu => ?_⟩
  rcases List.mem_append.mp hu with hu | hu
  · exact a u hu
  · rw [List.mem_singleton] at hu
    subst hu
    exact f G fx
theorem Wg.mark (W : Wg Fx Gd b H0 H1 H src vs) : Wg Fx Gd b H0 H H src vs := ⟨Same.refl _, W.sb, W.sr, W.gh⟩
theorem Wg.drawn {o : HO} (W : Wg Fx Gd b H0 H1 H src vs) : ∀ v ∈ vs, GdB Gd b (upd H b o) v := by
  obtain ⟨G, sg, g0, fx, a⟩ := W.gh
  exact fun v hv => ⟨G, same_mut sg g0, g0, a v hv⟩
theorem Wg.draw {o : HO} (W : Wg Fx Gd b H0 H1 H src vs) : (∀ y u, H0 y = some u → y ≠ b → upd H b o y = some u) ∧ ∀ y u, H y = some u → y ≠ b → upd H b o y = some u :=
  ⟨fun y u e n => by rw [upd_ne n]; exact W.sb y u e n, fun y u e n => by rw [upd_ne n]; exact e⟩
theorem GdB.at (st : StabV Gd) {v : V} (h : GdB Gd b H v) : Gd H v := by
  obtain ⟨G, s, _, o⟩ := h
  exact st _ _ _ s o
theorem GdB.sb {v : V} (h : GdB Gd b H v) (s : ∀ y o, H y = some o → y ≠ b → H' y = some o) : GdB Gd b H' v := by
  obtain ⟨G, sg, g0, o⟩ := h
  exact ⟨G, fun y u e => s _ _ (sg _ _ e) (fun z => by subst z; rw [g0] at e; cases e), g0, o⟩
/-- all but the source's list -/
def butB (b : Addr) (H : Hp) : Hp := fun y => if y = b then none else H y
theorem butB_same : Same (butB b H) H := fun y o e => by
  unfold butB at e
  by_cases z : y = b
  · simp [z] at e
  · simpa [z] using e
theorem butB_at : butB b H b = none := by simp [butB]
theorem butB_tup {K : PySem.W.Frag} {ys xs : List V} {p : Addr} (hb : H b = some (.lst ys)) (S : SqT K H p xs) : SqT K (butB b H) p xs := by
  rcases S with (S | ⟨o, S⟩) | S
  · exact .inl (.inl (by unfold butB; rw [if_neg fun e => by subst e; rw [hb] at S; cases S]; exact S))
  · exact .inl (.inr ⟨o, by unfold butB; rw [if_neg fun e => by subst e; rw [hb] at S; cases S]; exact S⟩)
  · exact .inr S
theorem butB_fr {K : PySem.W.Frag} {ys : List V} {x : V} {q : Rat} (hb : H b = some (.lst ys)) (f : FrV K H x q) : FrV K (butB b H) x q := by
  obtain ⟨p, e, S⟩ := f
  exact ⟨p, e, butB_tup hb S⟩
theorem Wg.start {ys : List V} (hs : H b = some (.lst ys)) (fx : Fx (butB b H)) : Wg Fx Gd b H H H (.lst ys) [] := ⟨Same.refl _, fun y o e _ => e, hs, butB b H, butB_same, butB_at, fx, fun v hv => by cases hv⟩
end
end Q7
set_option maxRecDepth 100000
set_option maxHeartbeats 4000000
namespace L05
open PySem PySem.Spec PyProof.Rows L2 Q7
def top (i : Nat) : Stmt := PySem.Challenge.pw_prepaidplans_k05_errors_of_rows.main.body.getD i (.Pass ⟨0, 0, 0, 0⟩)
abbrev s_is_whole : Stmt := top 2
abbrev s_is_tick : Stmt := top 3
abbrev s_is_fraction : Stmt := top 15
abbrev s_sum_of : Stmt := top 16
abbrev s__reduced : Stmt := top 17
abbrev s__sum : Stmt := top 18
abbrev s__product : Stmt := top 19
abbrev s__is_pair : Stmt := top 20
abbrev s__check_tick : Stmt := top 21
abbrev s__check_row : Stmt := top 22
abbrev s_Row___init__ : Stmt := inClass (top 23) 0
abbrev s_Row___add__ : Stmt := inClass (top 23) 1
abbrev s_Row___mul__ : Stmt := inClass (top 23) 2
abbrev s_Row_moved : Stmt := inClass (top 23) 6
abbrev s_Row_cut : Stmt := inClass (top 23) 7
abbrev s_Row_at : Stmt := inClass (top 23) 8
abbrev s_Row_up_to : Stmt := inClass (top 23) 9
abbrev s_Row_pairs : Stmt := inClass (top 23) 11
abbrev s__law_source : Stmt := top 25
abbrev s__law_draw : Stmt := top 26
abbrev s__law_divisor : Stmt := top 27
abbrev s__law_made : Stmt := top 28
abbrev s__law_pairs : Stmt := top 29
abbrev s__law_sums : Stmt := top 30
abbrev s__law_told : Stmt := top 32
abbrev s__law_bad_pair : Stmt := top 33
abbrev s__law_holds : Stmt := top 34
abbrev s_law : Stmt := top 35
theorem sc_is_whole : FnScope ["value"] ["value"] (defScope s_is_whole) := ⟨rfl, rfl, rfl, by decide +kernel, rfl, by decide +kernel, by decide +kernel⟩
theorem sc_is_tick : FnScope ["value"] ["value"] (defScope s_is_tick) := ⟨rfl, rfl, rfl, by decide +kernel, rfl, by decide +kernel, by decide +kernel⟩
theorem sc_is_fraction : FnScope ["value", "top", "bottom"] ["value"] (defScope s_is_fraction) := ⟨rfl, rfl, rfl, by decide +kernel, rfl, by decide +kernel, by decide +kernel⟩
theorem sc_sum_of : FnScope ["fractions", "total", "one"] ["fractions"] (defScope s_sum_of) := ⟨rfl, rfl, rfl, by decide +kernel, rfl, by decide +kernel, by decide +kernel⟩
theorem sc__reduced : FnScope ["top", "bottom", "divisor"] ["top", "bottom"] (defScope s__reduced) := ⟨rfl, rfl, rfl, by decide +kernel, rfl, by decide +kernel, by decide +kernel⟩
theorem sc__sum : FnScope ["one", "other"] ["one", "other"] (defScope s__sum) := ⟨rfl, rfl, rfl, by decide +kernel, rfl, by decide +kernel, by decide +kernel⟩
theorem sc__product : FnScope ["one", "other"] ["one", "other"] (defScope s__product) := ⟨rfl, rfl, rfl, by decide +kernel, rfl, by decide +kernel, by decide +kernel⟩
theorem sc__is_pair : FnScope ["value"] ["value"] (defScope s__is_pair) := ⟨rfl, rfl, rfl, by decide +kernel, rfl, by decide +kernel, by decide +kernel⟩
theorem sc__check_tick : FnScope ["value"] ["value"] (defScope s__check_tick) := ⟨rfl, rfl, rfl, by decide +kernel, rfl, by decide +kernel, by decide +kernel⟩
theorem sc__check_row : FnScope ["value"] ["value"] (defScope s__check_row) := ⟨rfl, rfl, rfl, by decide +kernel, rfl, by decide +kernel, by decide +kernel⟩
theorem sc_Row___init__ : FnScope ["self", "pairs", "sums", "tick", "share", "pair"] ["self", "pairs"] (defScope s_Row___init__) := ⟨rfl, rfl, rfl, by decide +kernel, rfl, by decide +kernel, by decide +kernel⟩
theorem sc_Row___add__ : FnScope ["self", "other"] ["self", "other"] (defScope s_Row___add__) := ⟨rfl, rfl, rfl, by decide +kernel, rfl, by decide +kernel, by decide +kernel⟩
theorem sc_Row___mul__ : FnScope ["self", "other", "theirs", "mine", "x", "their", "y"] ["self", "other"] (defScope s_Row___mul__) := ⟨rfl, rfl, rfl, by decide +kernel, rfl, by decide +kernel, by decide +kernel⟩
theorem sc_Row_moved : FnScope ["self", "ticks", "tick", "share"] ["self", "ticks"] (defScope s_Row_moved) := ⟨rfl, rfl, rfl, by decide +kernel, rfl, by decide +kernel, by decide +kernel⟩
theorem sc_Row_cut : FnScope ["self", "tick", "pair"] ["self", "tick"] (defScope s_Row_cut) := ⟨rfl, rfl, rfl, by decide +kernel, rfl, by decide +kernel, by decide +kernel⟩
theorem sc_Row_at : FnScope ["self", "tick"] ["self", "tick"] (defScope s_Row_at) := ⟨rfl, rfl, rfl, by decide +kernel, rfl, by decide +kernel, by decide +kernel⟩
theorem sc_Row_up_to : FnScope ["self", "tick", "when", "share"] ["self", "tick"] (defScope s_Row_up_to) := ⟨rfl, rfl, rfl, by decide +kernel, rfl, by decide +kernel, by decide +kernel⟩
theorem sc_Row_pairs : FnScope ["self"] ["self"] (defScope s_Row_pairs) := ⟨rfl, rfl, rfl, by decide +kernel, rfl, by decide +kernel, by decide +kernel⟩
theorem sc__law_source : FnScope ["cell", "k"] ["cell", "k"] (defScope s__law_source) := ⟨rfl, rfl, rfl, by decide +kernel, rfl, by decide +kernel, by decide +kernel⟩
theorem sc__law_draw : FnScope ["source", "wide", "digit", "first", "mixed"] ["source", "wide"] (defScope s__law_draw) := ⟨rfl, rfl, rfl, by decide +kernel, rfl, by decide +kernel, by decide +kernel⟩
theorem sc__law_divisor : FnScope ["one", "other"] ["one", "other"] (defScope s__law_divisor) := ⟨rfl, rfl, rfl, by decide +kernel, rfl, by decide +kernel, by decide +kernel⟩
theorem sc__law_made : FnScope ["top", "bottom", "common"] ["top", "bottom"] (defScope s__law_made) := ⟨rfl, rfl, rfl, by decide +kernel, rfl, by decide +kernel, by decide +kernel⟩
theorem sc__law_pairs : FnScope ["source", "most", "wide", "great", "found", "k", "share"] ["source", "most"] (defScope s__law_pairs) := ⟨rfl, rfl, rfl, by decide +kernel, rfl, by decide +kernel, by decide +kernel⟩
theorem sc__law_sums : FnScope ["given", "sums", "tick", "share", "top", "bottom"] ["given"] (defScope s__law_sums) := ⟨rfl, rfl, rfl, by decide +kernel, rfl, by decide +kernel, by decide +kernel⟩
theorem sc__law_told : FnScope ["door", "row", "thing", "caught", "e", "some"] ["door", "row", "thing"] (defScope s__law_told) := ⟨rfl, rfl, rfl, by decide +kernel, rfl, by decide +kernel, by decide +kernel⟩
theorem sc__law_bad_pair : FnScope ["source", "pair", "tick", "share", "odd"] ["source", "pair"] (defScope s__law_bad_pair) := ⟨rfl, rfl, rfl, by decide +kernel, rfl, by decide +kernel, by decide +kernel⟩
theorem sc__law_holds : FnScope ["source", "lap", "given", "at", "row", "bad", "things", "thing", "held", "strange", "door"] ["source"] (defScope s__law_holds) := ⟨rfl, rfl, rfl, by decide +kernel, rfl, by decide +kernel, by decide +kernel⟩
theorem sc_law : FnScope ["script", "k", "cell"] ["script"] (defScope s_law) := ⟨rfl, rfl, rfl, by decide +kernel, rfl, by decide +kernel, by decide +kernel⟩
def d_is_whole : He.DefD := ⟨("is_whole", none), "is_whole", "is_whole", defArgs s_is_whole, defBody s_is_whole, defScope s_is_whole, [], []⟩
def d_is_tick : He.DefD := ⟨("is_tick", none), "is_tick", "is_tick", defArgs s_is_tick, defBody s_is_tick, defScope s_is_tick, [], []⟩
def d_is_fraction : He.DefD := ⟨("is_fraction", none), "is_fraction", "is_fraction", defArgs s_is_fraction, defBody s_is_fraction, defScope s_is_fraction, [], []⟩
def d_sum_of : He.DefD := ⟨("sum_of", none), "sum_of", "sum_of", defArgs s_sum_of, defBody s_sum_of, defScope s_sum_of, [], []⟩
def d__reduced : He.DefD := ⟨("_reduced", none), "_reduced", "_reduced", defArgs s__reduced, defBody s__reduced, defScope s__reduced, [], []⟩
def d__sum : He.DefD := ⟨("_sum", none), "_sum", "_sum", defArgs s__sum, defBody s__sum, defScope s__sum, [], []⟩
def d__product : He.DefD := ⟨("_product", none), "_product", "_product", defArgs s__product, defBody s__product, defScope s__product, [], []⟩
def d__is_pair : He.DefD := ⟨("_is_pair", none), "_is_pair", "_is_pair", defArgs s__is_pair, defBody s__is_pair, defScope s__is_pair, [], []⟩
def d__check_tick : He.DefD := ⟨("_check_tick", none), "_check_tick", "_check_tick", defArgs s__check_tick, defBody s__check_tick, defScope s__check_tick, [], []⟩
def d__check_row : He.DefD := ⟨("_check_row", none), "_check_row", "_check_row", defArgs s__check_row, defBody s__check_row, defScope s__check_row, [], []⟩
def d_Row___init__ : He.DefD := ⟨("Row", some "__init__"), "__init__", "Row.__init__", defArgs s_Row___init__, defBody s_Row___init__, defScope s_Row___init__, [.adr (He.dflAt ("Row", some "__init__") 0)], []⟩
def d_Row___add__ : He.DefD := ⟨("Row", some "__add__"), "__add__", "Row.__add__", defArgs s_Row___add__, defBody s_Row___add__, defScope s_Row___add__, [], []⟩
def d_Row___mul__ : He.DefD := ⟨("Row", some "__mul__"), "__mul__", "Row.__mul__", defArgs s_Row___mul__, defBody s_Row___mul__, defScope s_Row___mul__, [], []⟩
def d_Row_moved : He.DefD := ⟨("Row", some "moved"), "moved", "Row.moved", defArgs s_Row_moved, defBody s_Row_moved, defScope s_Row_moved, [], []⟩
def d_Row_cut : He.DefD := ⟨("Row", some "cut"), "cut", "Row.cut", defArgs s_Row_cut, defBody s_Row_cut, defScope s_Row_cut, [], []⟩
def d_Row_at : He.DefD := ⟨("Row", some "at"), "at", "Row.at", defArgs s_Row_at, defBody s_Row_at, defScope s_Row_at, [], []⟩
def d_Row_up_to : He.DefD := ⟨("Row", some "up_to"), "up_to", "Row.up_to", defArgs s_Row_up_to, defBody s_Row_up_to, defScope s_Row_up_to, [], []⟩
def d_Row_pairs : He.DefD := ⟨("Row", some "pairs"), "pairs", "Row.pairs", defArgs s_Row_pairs, defBody s_Row_pairs, defScope s_Row_pairs, [], []⟩
def d__law_source : He.DefD := ⟨("_law_source", none), "_law_source", "_law_source", defArgs s__law_source, defBody s__law_source, defScope s__law_source, [], []⟩
def d__law_draw : He.DefD := ⟨("_law_draw", none), "_law_draw", "_law_draw", defArgs s__law_draw, defBody s__law_draw, defScope s__law_draw, [], []⟩
def d__law_divisor : He.DefD := ⟨("_law_divisor", none), "_law_divisor", "_law_divisor", defArgs s__law_divisor, defBody s__law_divisor, defScope s__law_divisor, [], []⟩
def d__law_made : He.DefD := ⟨("_law_made", none), "_law_made", "_law_made", defArgs s__law_made, defBody s__law_made, defScope s__law_made, [], []⟩
def d__law_pairs : He.DefD := ⟨("_law_pairs", none), "_law_pairs", "_law_pairs", defArgs s__law_pairs, defBody s__law_pairs, defScope s__law_pairs, [], []⟩
def d__law_sums : He.DefD := ⟨("_law_sums", none), "_law_sums", "_law_sums", defArgs s__law_sums, defBody s__law_sums, defScope s__law_sums, [], []⟩
def d__law_told : He.DefD := ⟨("_law_told", none), "_law_told", "_law_told", defArgs s__law_told, defBody s__law_told, defScope s__law_told, [], []⟩
def d__law_bad_pair : He.DefD := ⟨("_law_bad_pair", none), "_law_bad_pair", "_law_bad_pair", defArgs s__law_bad_pair, defBody s__law_bad_pair, defScope s__law_bad_pair, [], []⟩
def d__law_holds : He.DefD := ⟨("_law_holds", none), "_law_holds", "_law_holds", defArgs s__law_holds, defBody s__law_holds, defScope s__law_holds, [], []⟩
def d_law : He.DefD := ⟨("law", none), "law", "law", defArgs s_law, defBody s_law, defScope s_law, [], []⟩
def fns : List He.DefD := [d_is_whole, d_is_tick, d_is_fraction, d_sum_of, d__reduced, d__sum, d__product, d__is_pair, d__check_tick, d__check_row, d_Row___init__, d_Row___add__, d_Row___mul__, d_Row_moved, d_Row_cut, d_Row_at, d_Row_up_to, d_Row_pairs, d__law_source, d__law_draw, d__law_divisor, d__law_made, d__law_pairs, d__law_sums, d__law_told, d__law_bad_pair, d__law_holds, d_law]
def fas : List He.Fa := [.glo "is_whole", .glo "is_tick", .glo "is_fraction", .glo "sum_of", .glo "_reduced", .glo "_sum", .glo "_product", .glo "_is_pair", .glo "_check_tick", .glo "_check_row", .glo "_law_source", .glo "_law_draw", .glo "_law_divisor", .glo "_law_made", .glo "_law_pairs", .glo "_law_sums", .glo "_law_told", .glo "_law_bad_pair", .glo "_law_holds", .glo "law", .glo "PlanError", .glo "InvalidFraction", .glo "InvalidRow", .glo "InvalidTick", .glo "InvalidName", .glo "InvalidTask", .glo "InvalidNumber", .glo "InvalidTasks", .glo "Row", .free "ValueError", .free "isinstance", .free "int", .free "bool", .free "tuple", .free "list", .free "len", .free "all", .free "sorted", .free "range", .free "abs", .free "enumerate", .free "max", .free "min", .free "repr", .free "dict", .cls "Row", .mkr "Row", .noat "Row" "_shares", .meth "Row" "__init__", .meth "Row" "__add__", .meth "Row" "__mul__", .meth "Row" "moved", .meth "Row" "cut", .meth "Row" "at", .meth "Row" "up_to", .meth "Row" "pairs"]
def exs : List Tst := [tKit "int" "int" true, tKit "int" "bool" false, tKit "tuple" "tuple" true, fun K => decide (PySem.W.kitAny K (.type "list") [.type "list", .type "tuple"] = some true), fun K => decide (PySem.W.kitAny K (.type "tuple") [.type "list", .type "tuple"] = some true), fun K => decide (PySem.W.kitAny K (.ref (He.ga K "Row")) [.type "list", .type "tuple"] = some false), fun K => kinds.all fun t => decide (PySem.W.kitAny K (.type t) [.type "list", .type "tuple"] = some (t == "list" || t == "tuple")), fun K => decide (PySem.W.kitOne K (.ref (He.ga K "Row")) (.type "int") = some false), fun K => He.tupB K "ZERO" [.int 0, .int 1], fun K => He.eqO (PySem.W.nsIn K mainGlobals "ZERO") (some (some (.ref (He.ga K "ZERO")))), tGlo "gcd" (.builtin "math.gcd"), tFirst "Row", tIns "Row", tNil0 fun K => (He.dflAt ("Row", some "__init__") 0 K), tBin .Add "Row", tBin .Mult "Row", tSys, tKinds, fun K => kinds.all fun t => decide (PySem.W.kitOne K (.type t) (.ref (He.ga K "Row")) = some false), fun K => PySem.W.excIn K (He.ga K "InvalidRow") [.type "ValueError", .type "Exception", .type "BaseException", .type "object"] "ValueError.__new__", fun K => PySem.W.keepIn K (.ref (He.ga K "InvalidRow")), fun K => decide (PySem.W.subIn K (.ref (He.ga K "InvalidRow")) (.type "BaseException") = some true), fun K => decide (PySem.W.typeIn K (.ref (He.ga K "InvalidRow")) = some (.type "type")), fun K => decide (PySem.W.exmOne K (.ref (He.ga K "InvalidRow")) (.ref (He.ga K "PlanError")) = some true), fun K => tExcC K (He.ga K "InvalidRow"), fun K => decide (PySem.W.kitAny K (.ref (He.ga K "InvalidRow")) [.ref (He.ga K "InvalidFraction"), .ref (He.ga K "InvalidName"), .ref (He.ga K "InvalidNumber"), .ref (He.ga K "InvalidTask"), .ref (He.ga K "InvalidTasks")] = some false), fun K => decide (PySem.W.kitOne K (.ref (He.ga K "InvalidRow")) (.type "ValueError") = some true), fun K => decide (PySem.W.kitOne K (.ref (He.ga K "InvalidRow")) (.ref (He.ga K "InvalidRow")) = some true), fun K => decide (PySem.W.kitOne K (.ref (He.ga K "InvalidRow")) (.ref (He.ga K "InvalidTick")) = some false), fun K => PySem.W.excIn K (He.ga K "InvalidTick") [.type "ValueError", .type "Exception", .type "BaseException", .type "object"] "ValueError.__new__", fun K => PySem.W.keepIn K (.ref (He.ga K "InvalidTick")), fun K => decide (PySem.W.subIn K (.ref (He.ga K "InvalidTick")) (.type "BaseException") = some true), fun K => decide (PySem.W.typeIn K (.ref (He.ga K "InvalidTick")) = some (.type "type")), fun K => decide (PySem.W.exmOne K (.ref (He.ga K "InvalidTick")) (.ref (He.ga K "PlanError")) = some true), fun K => tExcC K (He.ga K "InvalidTick"), fun K => decide (PySem.W.kitAny K (.ref (He.ga K "InvalidTick")) [.ref (He.ga K "InvalidFraction"), .ref (He.ga K "InvalidName"), .ref (He.ga K "InvalidNumber"), .ref (He.ga K "InvalidTask"), .ref (He.ga K "InvalidTasks")] = some false), fun K => decide (PySem.W.kitOne K (.ref (He.ga K "InvalidTick")) (.type "ValueError") = some true), fun K => decide (PySem.W.kitOne K (.ref (He.ga K "InvalidTick")) (.ref (He.ga K "InvalidRow")) = some false), fun K => decide (PySem.W.kitOne K (.ref (He.ga K "InvalidTick")) (.ref (He.ga K "InvalidTick")) = some true)]
structure Txt (K : PySem.W.Frag) (mg : Str → Option Value) : Type where
  fd_is_whole : FuncData
  F_is_whole : FunD K "is_whole" "is_whole" (defArgs s_is_whole) (defBody s_is_whole) (defScope s_is_whole) [] [] (He.ga K "is_whole") fd_is_whole
  b_is_whole : Binds K fd_is_whole ["value"] []
  g_is_whole : mg "is_whole" = some (.ref (He.ga K "is_whole"))
  fd_is_tick : FuncData
  F_is_tick : FunD K "is_tick" "is_tick" (defArgs s_is_tick) (defBody s_is_tick) (defScope s_is_tick) [] [] (He.ga K "is_tick") fd_is_tick
  b_is_tick : Binds K fd_is_tick ["value"] []
  g_is_tick : mg "is_tick" = some (.ref (He.ga K "is_tick"))
  fd_is_fraction : FuncData
  F_is_fraction : FunD K "is_fraction" "is_fraction" (defArgs s_is_fraction) (defBody s_is_fraction) (defScope s_is_fraction) [] [] (He.ga K "is_fraction") fd_is_fraction
  b_is_fraction : Binds K fd_is_fraction ["value"] []
  g_is_fraction : mg "is_fraction" = some (.ref (He.ga K "is_fraction"))
  fd_sum_of : FuncData
  F_sum_of : FunD K "sum_of" "sum_of" (defArgs s_sum_of) (defBody s_sum_of) (defScope s_sum_of) [] [] (He.ga K "sum_of") fd_sum_of
  b_sum_of : Binds K fd_sum_of ["fractions"] []
  g_sum_of : mg "sum_of" = some (.ref (He.ga K "sum_of"))
  fd__reduced : FuncData
  F__reduced : FunD K "_reduced" "_reduced" (defArgs s__reduced) (defBody s__reduced) (defScope s__reduced) [] [] (He.ga K "_reduced") fd__reduced
  b__reduced : Binds K fd__reduced ["top", "bottom"] []
  g__reduced : mg "_reduced" = some (.ref (He.ga K "_reduced"))
  fd__sum : FuncData
  F__sum : FunD K "_sum" "_sum" (defArgs s__sum) (defBody s__sum) (defScope s__sum) [] [] (He.ga K "_sum") fd__sum
  b__sum : Binds K fd__sum ["one", "other"] []
  g__sum : mg "_sum" = some (.ref (He.ga K "_sum"))
  fd__product : FuncData
  F__product : FunD K "_product" "_product" (defArgs s__product) (defBody s__product) (defScope s__product) [] [] (He.ga K "_product") fd__product
  b__product : Binds K fd__product ["one", "other"] []
  g__product : mg "_product" = some (.ref (He.ga K "_product"))
  fd__is_pair : FuncData
  F__is_pair : FunD K "_is_pair" "_is_pair" (defArgs s__is_pair) (defBody s__is_pair) (defScope s__is_pair) [] [] (He.ga K "_is_pair") fd__is_pair
  b__is_pair : Binds K fd__is_pair ["value"] []
  g__is_pair : mg "_is_pair" = some (.ref (He.ga K "_is_pair"))
  fd__check_tick : FuncData
  F__check_tick : FunD K "_check_tick" "_check_tick" (defArgs s__check_tick) (defBody s__check_tick) (defScope s__check_tick) [] [] (He.ga K "_check_tick") fd__check_tick
  b__check_tick : Binds K fd__check_tick ["value"] []
  g__check_tick : mg "_check_tick" = some (.ref (He.ga K "_check_tick"))
  fd__check_row : FuncData
  F__check_row : FunD K "_check_row" "_check_row" (defArgs s__check_row) (defBody s__check_row) (defScope s__check_row) [] [] (He.ga K "_check_row") fd__check_row
  b__check_row : Binds K fd__check_row ["value"] []
  g__check_row : mg "_check_row" = some (.ref (He.ga K "_check_row"))
  fd_Row___init__ : FuncData
  F_Row___init__ : FunD K "__init__" "Row.__init__" (defArgs s_Row___init__) (defBody s_Row___init__) (defScope s_Row___init__) [.ref (He.dflAt ("Row", some "__init__") 0 K)] [] (He.ma K (He.ga K "Row") "__init__") fd_Row___init__
  b_Row___init__ : Binds K fd_Row___init__ ["self", "pairs"] []
  bd_Row___init__ : Binds K fd_Row___init__ ["self", "pairs"] [Value.ref (He.dflAt ("Row", some "__init__") 0 K)]
  d_Row___init__ : Vals [V.ref (He.dflAt ("Row", some "__init__") 0 K)] [Value.ref (He.dflAt ("Row", some "__init__") 0 K)]
  fd_Row___add__ : FuncData
  F_Row___add__ : FunD K "__add__" "Row.__add__" (defArgs s_Row___add__) (defBody s_Row___add__) (defScope s_Row___add__) [] [] (He.ma K (He.ga K "Row") "__add__") fd_Row___add__
  b_Row___add__ : Binds K fd_Row___add__ ["self", "other"] []
  fd_Row___mul__ : FuncData
  F_Row___mul__ : FunD K "__mul__" "Row.__mul__" (defArgs s_Row___mul__) (defBody s_Row___mul__) (defScope s_Row___mul__) [] [] (He.ma K (He.ga K "Row") "__mul__") fd_Row___mul__
  b_Row___mul__ : Binds K fd_Row___mul__ ["self", "other"] []
  fd_Row_moved : FuncData
  F_Row_moved : FunD K "moved" "Row.moved" (defArgs s_Row_moved) (defBody s_Row_moved) (defScope s_Row_moved) [] [] (He.ma K (He.ga K "Row") "moved") fd_Row_moved
  b_Row_moved : Binds K fd_Row_moved ["self", "ticks"] []
  fd_Row_cut : FuncData
  F_Row_cut : FunD K "cut" "Row.cut" (defArgs s_Row_cut) (defBody s_Row_cut) (defScope s_Row_cut) [] [] (He.ma K (He.ga K "Row") "cut") fd_Row_cut
  b_Row_cut : Binds K fd_Row_cut ["self", "tick"] []
  fd_Row_at : FuncData
  F_Row_at : FunD K "at" "Row.at" (defArgs s_Row_at) (defBody s_Row_at) (defScope s_Row_at) [] [] (He.ma K (He.ga K "Row") "at") fd_Row_at
  b_Row_at : Binds K fd_Row_at ["self", "tick"] []
  fd_Row_up_to : FuncData
  F_Row_up_to : FunD K "up_to" "Row.up_to" (defArgs s_Row_up_to) (defBody s_Row_up_to) (defScope s_Row_up_to) [] [] (He.ma K (He.ga K "Row") "up_to") fd_Row_up_to
  b_Row_up_to : Binds K fd_Row_up_to ["self", "tick"] []
  fd_Row_pairs : FuncData
  F_Row_pairs : FunD K "pairs" "Row.pairs" (defArgs s_Row_pairs) (defBody s_Row_pairs) (defScope s_Row_pairs) [] [] (He.ma K (He.ga K "Row") "pairs") fd_Row_pairs
  b_Row_pairs : Binds K fd_Row_pairs ["self"] []
  fd__law_source : FuncData
  F__law_source : FunD K "_law_source" "_law_source" (defArgs s__law_source) (defBody s__law_source) (defScope s__law_source) [] [] (He.ga K "_law_source") fd__law_source
  b__law_source : Binds K fd__law_source ["cell", "k"] []
  g__law_source : mg "_law_source" = some (.ref (He.ga K "_law_source"))
  fd__law_draw : FuncData
  F__law_draw : FunD K "_law_draw" "_law_draw" (defArgs s__law_draw) (defBody s__law_draw) (defScope s__law_draw) [] [] (He.ga K "_law_draw") fd__law_draw
  b__law_draw : Binds K fd__law_draw ["source", "wide"] []
  g__law_draw : mg "_law_draw" = some (.ref (He.ga K "_law_draw"))
  fd__law_divisor : FuncData
  F__law_divisor : FunD K "_law_divisor" "_law_divisor" (defArgs s__law_divisor) (defBody s__law_divisor) (defScope s__law_divisor) [] [] (He.ga K "_law_divisor") fd__law_divisor
  b__law_divisor : Binds K fd__law_divisor ["one", "other"] []
  g__law_divisor : mg "_law_divisor" = some (.ref (He.ga K "_law_divisor"))
  fd__law_made : FuncData
  F__law_made : FunD K "_law_made" "_law_made" (defArgs s__law_made) (defBody s__law_made) (defScope s__law_made) [] [] (He.ga K "_law_made") fd__law_made
  b__law_made : Binds K fd__law_made ["top", "bottom"] []
  g__law_made : mg "_law_made" = some (.ref (He.ga K "_law_made"))
  fd__law_pairs : FuncData
  F__law_pairs : FunD K "_law_pairs" "_law_pairs" (defArgs s__law_pairs) (defBody s__law_pairs) (defScope s__law_pairs) [] [] (He.ga K "_law_pairs") fd__law_pairs
  b__law_pairs : Binds K fd__law_pairs ["source", "most"] []
  g__law_pairs : mg "_law_pairs" = some (.ref (He.ga K "_law_pairs"))
  fd__law_sums : FuncData
  F__law_sums : FunD K "_law_sums" "_law_sums" (defArgs s__law_sums) (defBody s__law_sums) (defScope s__law_sums) [] [] (He.ga K "_law_sums") fd__law_sums
  b__law_sums : Binds K fd__law_sums ["given"] []
  g__law_sums : mg "_law_sums" = some (.ref (He.ga K "_law_sums"))
  fd__law_told : FuncData
  F__law_told : FunD K "_law_told" "_law_told" (defArgs s__law_told) (defBody s__law_told) (defScope s__law_told) [] [] (He.ga K "_law_told") fd__law_told
  b__law_told : Binds K fd__law_told ["door", "row", "thing"] []
  g__law_told : mg "_law_told" = some (.ref (He.ga K "_law_told"))
  fd__law_bad_pair : FuncData
  F__law_bad_pair : FunD K "_law_bad_pair" "_law_bad_pair" (defArgs s__law_bad_pair) (defBody s__law_bad_pair) (defScope s__law_bad_pair) [] [] (He.ga K "_law_bad_pair") fd__law_bad_pair
  b__law_bad_pair : Binds K fd__law_bad_pair ["source", "pair"] []
  g__law_bad_pair : mg "_law_bad_pair" = some (.ref (He.ga K "_law_bad_pair"))
  fd__law_holds : FuncData
  F__law_holds : FunD K "_law_holds" "_law_holds" (defArgs s__law_holds) (defBody s__law_holds) (defScope s__law_holds) [] [] (He.ga K "_law_holds") fd__law_holds
  b__law_holds : Binds K fd__law_holds ["source"] []
  g__law_holds : mg "_law_holds" = some (.ref (He.ga K "_law_holds"))
  fd_law : FuncData
  F_law : FunD K "law" "law" (defArgs s_law) (defBody s_law) (defScope s_law) [] [] (He.ga K "law") fd_law
  b_law : Binds K fd_law ["script"] []
  g_law : mg "law" = some (.ref (He.ga K "law"))
  g_PlanError : mg "PlanError" = some (.ref (He.ga K "PlanError"))
  g_InvalidFraction : mg "InvalidFraction" = some (.ref (He.ga K "InvalidFraction"))
  g_InvalidRow : mg "InvalidRow" = some (.ref (He.ga K "InvalidRow"))
  g_InvalidTick : mg "InvalidTick" = some (.ref (He.ga K "InvalidTick"))
  g_InvalidName : mg "InvalidName" = some (.ref (He.ga K "InvalidName"))
  g_InvalidTask : mg "InvalidTask" = some (.ref (He.ga K "InvalidTask"))
  g_InvalidNumber : mg "InvalidNumber" = some (.ref (He.ga K "InvalidNumber"))
  g_InvalidTasks : mg "InvalidTasks" = some (.ref (He.ga K "InvalidTasks"))
  g_Row : mg "Row" = some (.ref (He.ga K "Row"))
  cl_Row : Cls K (He.ga K "Row")
  mk_Row : Mk K (He.ga K "Row") (He.ma K (He.ga K "Row") "__init__")
  na_Row__shares : NoAttr K (He.ga K "Row") "_shares"
  me_Row___init__ : Meth K (He.ga K "Row") "__init__" (He.ma K (He.ga K "Row") "__init__")
  me_Row___add__ : Meth K (He.ga K "Row") "__add__" (He.ma K (He.ga K "Row") "__add__")
  me_Row___mul__ : Meth K (He.ga K "Row") "__mul__" (He.ma K (He.ga K "Row") "__mul__")
  me_Row_moved : Meth K (He.ga K "Row") "moved" (He.ma K (He.ga K "Row") "moved")
  me_Row_cut : Meth K (He.ga K "Row") "cut" (He.ma K (He.ga K "Row") "cut")
  me_Row_at : Meth K (He.ga K "Row") "at" (He.ma K (He.ga K "Row") "at")
  me_Row_up_to : Meth K (He.ga K "Row") "up_to" (He.ma K (He.ga K "Row") "up_to")
  me_Row_pairs : Meth K (He.ga K "Row") "pairs" (He.ma K (He.ga K "Row") "pairs")
  m_ValueError : mg "ValueError" = none
  m_isinstance : mg "isinstance" = none
  m_int : mg "int" = none
  m_bool : mg "bool" = none
  m_tuple : mg "tuple" = none
  m_list : mg "list" = none
  m_len : mg "len" = none
  m_all : mg "all" = none
  m_sorted : mg "sorted" = none
  m_range : mg "range" = none
  m_abs : mg "abs" = none
  m_enumerate : mg "enumerate" = none
  m_max : mg "max" = none
  m_min : mg "min" = none
  m_repr : mg "repr" = none
  m_dict : mg "dict" = none
  k_int_int : PySem.W.kitOne K (.type "int") (.type "int") = some true
  k_int_bool : PySem.W.kitOne K (.type "int") (.type "bool") = some false
  k_tuple : PySem.W.kitOne K (.type "tuple") (.type "tuple") = some true
  k_lt_l : PySem.W.kitAny K (.type "list") [.type "list", .type "tuple"] = some true
  k_lt_t : PySem.W.kitAny K (.type "tuple") [.type "list", .type "tuple"] = some true
  k_lt_r : PySem.W.kitAny K (.ref (He.ga K "Row")) [.type "list", .type "tuple"] = some false
  k_lt : ∀ t ∈ kinds, PySem.W.kitAny K (.type t) [.type "list", .type "tuple"] = some (t == "list" || t == "tuple")
  k_row_int : PySem.W.kitOne K (.ref (He.ga K "Row")) (.type "int") = some false
  zero : ∀ H : Hp, SqT K H (He.ga K "ZERO") [.int 0, .int 1]
  g_ZERO : mg "ZERO" = some (.ref (He.ga K "ZERO"))
  g_gcd : mg "gcd" = some (.builtin "math.gcd")
  first_Row : PySem.W.selfFirst K (He.ga K "Row") = true
  ins_Row : InsC K (He.ga K "Row")
  dfl0 : ∀ H : Hp, SqT K H (He.dflAt ("Row", some "__init__") 0 K) []
  bin_add : BinT K .Add (He.ga K "Row")
  bin_mul : BinT K .Mult (He.ga K "Row")
  sys : SysD K
  kit : ∀ t ∈ kinds, Kit K t
  k_row : ∀ t ∈ kinds, PySem.W.kitOne K (.type t) (.ref (He.ga K "Row")) = some false
  x_IR : PySem.W.excIn K (He.ga K "InvalidRow") [.type "ValueError", .type "Exception", .type "BaseException", .type "object"] "ValueError.__new__" = true
  k_IR : PySem.W.keepIn K (.ref (He.ga K "InvalidRow")) = true
  s_IR : PySem.W.subIn K (.ref (He.ga K "InvalidRow")) (.type "BaseException") = some true
  t_IR : PySem.W.typeIn K (.ref (He.ga K "InvalidRow")) = some (.type "type")
  m_IR : PySem.W.exmOne K (.ref (He.ga K "InvalidRow")) (.ref (He.ga K "PlanError")) = some true
  e_IR : ExcC K (He.ga K "InvalidRow")
  i_A_IR : PySem.W.kitAny K (.ref (He.ga K "InvalidRow")) [.ref (He.ga K "InvalidFraction"), .ref (He.ga K "InvalidName"), .ref (He.ga K "InvalidNumber"), .ref (He.ga K "InvalidTask"), .ref (He.ga K "InvalidTasks")] = some false
  i_V_IR : PySem.W.kitOne K (.ref (He.ga K "InvalidRow")) (.type "ValueError") = some true
  i_R_IR : PySem.W.kitOne K (.ref (He.ga K "InvalidRow")) (.ref (He.ga K "InvalidRow")) = some true
  i_T_IR : PySem.W.kitOne K (.ref (He.ga K "InvalidRow")) (.ref (He.ga K "InvalidTick")) = some false
  x_IT : PySem.W.excIn K (He.ga K "InvalidTick") [.type "ValueError", .type "Exception", .type "BaseException", .type "object"] "ValueError.__new__" = true
  k_IT : PySem.W.keepIn K (.ref (He.ga K "InvalidTick")) = true
  s_IT : PySem.W.subIn K (.ref (He.ga K "InvalidTick")) (.type "BaseException") = some true
  t_IT : PySem.W.typeIn K (.ref (He.ga K "InvalidTick")) = some (.type "type")
  m_IT : PySem.W.exmOne K (.ref (He.ga K "InvalidTick")) (.ref (He.ga K "PlanError")) = some true
  e_IT : ExcC K (He.ga K "InvalidTick")
  i_A_IT : PySem.W.kitAny K (.ref (He.ga K "InvalidTick")) [.ref (He.ga K "InvalidFraction"), .ref (He.ga K "InvalidName"), .ref (He.ga K "InvalidNumber"), .ref (He.ga K "InvalidTask"), .ref (He.ga K "InvalidTasks")] = some false
  i_V_IT : PySem.W.kitOne K (.ref (He.ga K "InvalidTick")) (.type "ValueError") = some true
  i_R_IT : PySem.W.kitOne K (.ref (He.ga K "InvalidTick")) (.ref (He.ga K "InvalidRow")) = some false
  i_T_IT : PySem.W.kitOne K (.ref (He.ga K "InvalidTick")) (.ref (He.ga K "InvalidTick")) = some true
  kb_Row___init___pairs : ∃ its : List Value, KBn K fd_Row___init__ ["self", "pairs"] 1 ["pairs"] (fun us ws => app3 us its ws) (fun vs zs => app3 vs [V.ref (He.dflAt ("Row", some "__init__") 0 K)] zs)
set_option maxHeartbeats 8000000 in
theorem txt {K : PySem.W.Frag} {h : Heap} {mg : Str → Option Value} (X : K.In h) (G : h.Ns mainGlobals mg) (c : He.SaysD fas fns K) (x : (exs.all fun f => f K) = true) : Nonempty (Txt K mg) := by
  obtain ⟨fd_is_whole, F_is_whole⟩ := c.def_ 0 (d := d_is_whole) rfl
  obtain ⟨fd_is_tick, F_is_tick⟩ := c.def_ 1 (d := d_is_tick) rfl
  obtain ⟨fd_is_fraction, F_is_fraction⟩ := c.def_ 2 (d := d_is_fraction) rfl
  obtain ⟨fd_sum_of, F_sum_of⟩ := c.def_ 3 (d := d_sum_of) rfl
  obtain ⟨fd__reduced, F__reduced⟩ := c.def_ 4 (d := d__reduced) rfl
  obtain ⟨fd__sum, F__sum⟩ := c.def_ 5 (d := d__sum) rfl
  obtain ⟨fd__product, F__product⟩ := c.def_ 6 (d := d__product) rfl
  obtain ⟨fd__is_pair, F__is_pair⟩ := c.def_ 7 (d := d__is_pair) rfl
  obtain ⟨fd__check_tick, F__check_tick⟩ := c.def_ 8 (d := d__check_tick) rfl
  obtain ⟨fd__check_row, F__check_row⟩ := c.def_ 9 (d := d__check_row) rfl
  obtain ⟨fd_Row___init__, F_Row___init__⟩ := c.def_ 10 (d := d_Row___init__) rfl
  obtain ⟨fd_Row___add__, F_Row___add__⟩ := c.def_ 11 (d := d_Row___add__) rfl
  obtain ⟨fd_Row___mul__, F_Row___mul__⟩ := c.def_ 12 (d := d_Row___mul__) rfl
  obtain ⟨fd_Row_moved, F_Row_moved⟩ := c.def_ 13 (d := d_Row_moved) rfl
  obtain ⟨fd_Row_cut, F_Row_cut⟩ := c.def_ 14 (d := d_Row_cut) rfl
  obtain ⟨fd_Row_at, F_Row_at⟩ := c.def_ 15 (d := d_Row_at) rfl
  obtain ⟨fd_Row_up_to, F_Row_up_to⟩ := c.def_ 16 (d := d_Row_up_to) rfl
  obtain ⟨fd_Row_pairs, F_Row_pairs⟩ := c.def_ 17 (d := d_Row_pairs) rfl
  obtain ⟨fd__law_source, F__law_source⟩ := c.def_ 18 (d := d__law_source) rfl
  obtain ⟨fd__law_draw, F__law_draw⟩ := c.def_ 19 (d := d__law_draw) rfl
  obtain ⟨fd__law_divisor, F__law_divisor⟩ := c.def_ 20 (d := d__law_divisor) rfl
  obtain ⟨fd__law_made, F__law_made⟩ := c.def_ 21 (d := d__law_made) rfl
  obtain ⟨fd__law_pairs, F__law_pairs⟩ := c.def_ 22 (d := d__law_pairs) rfl
  obtain ⟨fd__law_sums, F__law_sums⟩ := c.def_ 23 (d := d__law_sums) rfl
  obtain ⟨fd__law_told, F__law_told⟩ := c.def_ 24 (d := d__law_told) rfl
  obtain ⟨fd__law_bad_pair, F__law_bad_pair⟩ := c.def_ 25 (d := d__law_bad_pair) rfl
  obtain ⟨fd__law_holds, F__law_holds⟩ := c.def_ 26 (d := d__law_holds) rfl
  obtain ⟨fd_law, F_law⟩ := c.def_ 27 (d := d_law) rfl
  exact ⟨{
    fd_is_whole := fd_is_whole,
    F_is_whole := F_is_whole,
    b_is_whole := FunD.bindsN (ps := ["value"]) F_is_whole fun _ _ _ _ _ _ us hl => match us, hl with | [_], _ => rfl,
    g_is_whole := He.glo_ok X G (c.fact 0 (f := .glo "is_whole") rfl),
    fd_is_tick := fd_is_tick,
    F_is_tick := F_is_tick,
    b_is_tick := FunD.bindsN (ps := ["value"]) F_is_tick fun _ _ _ _ _ _ us hl => match us, hl with | [_], _ => rfl,
    g_is_tick := He.glo_ok X G (c.fact 1 (f := .glo "is_tick") rfl),
    fd_is_fraction := fd_is_fraction,
    F_is_fraction := F_is_fraction,
    b_is_fraction := FunD.bindsN (ps := ["value"]) F_is_fraction fun _ _ _ _ _ _ us hl => match us, hl with | [_], _ => rfl,
    g_is_fraction := He.glo_ok X G (c.fact 2 (f := .glo "is_fraction") rfl),
    fd_sum_of := fd_sum_of,
    F_sum_of := F_sum_of,
    b_sum_of := FunD.bindsN (ps := ["fractions"]) F_sum_of fun _ _ _ _ _ _ us hl => match us, hl with | [_], _ => rfl,
    g_sum_of := He.glo_ok X G (c.fact 3 (f := .glo "sum_of") rfl),
    fd__reduced := fd__reduced,
    F__reduced := F__reduced,
    b__reduced := FunD.bindsN (ps := ["top", "bottom"]) F__reduced fun _ _ _ _ _ _ us hl => match us, hl with | [_, _], _ => rfl,
    g__reduced := He.glo_ok X G (c.fact 4 (f := .glo "_reduced") rfl),
    fd__sum := fd__sum,
    F__sum := F__sum,
    b__sum := FunD.bindsN (ps := ["one", "other"]) F__sum fun _ _ _ _ _ _ us hl => match us, hl with | [_, _], _ => rfl,
    g__sum := He.glo_ok X G (c.fact 5 (f := .glo "_sum") rfl),
    fd__product := fd__product,
    F__product := F__product,
    b__product := FunD.bindsN (ps := ["one", "other"]) F__product fun _ _ _ _ _ _ us hl => match us, hl with | [_, _], _ => rfl,
    g__product := He.glo_ok X G (c.fact 6 (f := .glo "_product") rfl),
    fd__is_pair := fd__is_pair,
    F__is_pair := F__is_pair,
    b__is_pair := FunD.bindsN (ps := ["value"]) F__is_pair fun _ _ _ _ _ _ us hl => match us, hl with | [_], _ => rfl,
    g__is_pair := He.glo_ok X G (c.fact 7 (f := .glo "_is_pair") rfl),
    fd__check_tick := fd__check_tick,
    F__check_tick := F__check_tick,
    b__check_tick := FunD.bindsN (ps := ["value"]) F__check_tick fun _ _ _ _ _ _ us hl => match us, hl with | [_], _ => rfl,
    g__check_tick := He.glo_ok X G (c.fact 8 (f := .glo "_check_tick") rfl),
    fd__check_row := fd__check_row,
    F__check_row := F__check_row,
    b__check_row := FunD.bindsN (ps := ["value"]) F__check_row fun _ _ _ _ _ _ us hl => match us, hl with | [_], _ => rfl,
    g__check_row := He.glo_ok X G (c.fact 9 (f := .glo "_check_row") rfl),
    fd_Row___init__ := fd_Row___init__,
    F_Row___init__ := F_Row___init__,
    b_Row___init__ := by
      exact (let ⟨ds, hv, hb⟩ := FunD.binds1 (ps := ["self", "pairs"]) F_Row___init__ 2 1 (by simp [d_Row___init__, He.DefD.dvs]) (by rfl) (fun _ _ _ _ _ _ _ us its h1 h2 => match us, its, h1, h2 with | [_, _], [_], _, _ => ⟨_, rfl, rfl⟩); (show Binds _ _ _ [] from by cases hv; exact hb)),
    bd_Row___init__ := by
      exact (let ⟨ds, hv, hb⟩ := FunD.binds1 (ps := ["self", "pairs"]) F_Row___init__ 1 0 (by simp [d_Row___init__, He.DefD.dvs]) (by rfl) (fun _ _ _ _ _ _ _ us its h1 h2 => match us, its, h1, h2 with | [_], [_], _, _ => ⟨_, rfl, rfl⟩); (show Binds _ _ _ _ from by cases hv with | cons r0 r1 => cases r1; cases r0; exact hb)),
    d_Row___init__ := .cons rfl .nil,
    fd_Row___add__ := fd_Row___add__,
    F_Row___add__ := F_Row___add__,
    b_Row___add__ := FunD.bindsN (ps := ["self", "other"]) F_Row___add__ fun _ _ _ _ _ _ us hl => match us, hl with | [_, _], _ => rfl,
    fd_Row___mul__ := fd_Row___mul__,
    F_Row___mul__ := F_Row___mul__,
    b_Row___mul__ := FunD.bindsN (ps := ["self", "other"]) F_Row___mul__ fun _ _ _ _ _ _ us hl => match us, hl with | [_, _], _ => rfl,
    fd_Row_moved := fd_Row_moved,
    F_Row_moved := F_Row_moved,
    b_Row_moved := FunD.bindsN (ps := ["self", "ticks"]) F_Row_moved fun _ _ _ _ _ _ us hl => match us, hl with | [_, _], _ => rfl,
    fd_Row_cut := fd_Row_cut,
    F_Row_cut := F_Row_cut,
    b_Row_cut := FunD.bindsN (ps := ["self", "tick"]) F_Row_cut fun _ _ _ _ _ _ us hl => match us, hl with | [_, _], _ => rfl,
    fd_Row_at := fd_Row_at,
    F_Row_at := F_Row_at,
    b_Row_at := FunD.bindsN (ps := ["self", "tick"]) F_Row_at fun _ _ _ _ _ _ us hl => match us, hl with | [_, _], _ => rfl,
    fd_Row_up_to := fd_Row_up_to,
    F_Row_up_to := F_Row_up_to,
    b_Row_up_to := FunD.bindsN (ps := ["self", "tick"]) F_Row_up_to fun _ _ _ _ _ _ us hl => match us, hl with | [_, _], _ => rfl,
    fd_Row_pairs := fd_Row_pairs,
    F_Row_pairs := F_Row_pairs,
    b_Row_pairs := FunD.bindsN (ps := ["self"]) F_Row_pairs fun _ _ _ _ _ _ us hl => match us, hl with | [_], _ => rfl,
    fd__law_source := fd__law_source,
    F__law_source := F__law_source,
    b__law_source := FunD.bindsN (ps := ["cell", "k"]) F__law_source fun _ _ _ _ _ _ us hl => match us, hl with | [_, _], _ => rfl,
    g__law_source := He.glo_ok X G (c.fact 10 (f := .glo "_law_source") rfl),
    fd__law_draw := fd__law_draw,
    F__law_draw := F__law_draw,
    b__law_draw := FunD.bindsN (ps := ["source", "wide"]) F__law_draw fun _ _ _ _ _ _ us hl => match us, hl with | [_, _], _ => rfl,
    g__law_draw := He.glo_ok X G (c.fact 11 (f := .glo "_law_draw") rfl),
    fd__law_divisor := fd__law_divisor,
    F__law_divisor := F__law_divisor,
    b__law_divisor := FunD.bindsN (ps := ["one", "other"]) F__law_divisor fun _ _ _ _ _ _ us hl => match us, hl with | [_, _], _ => rfl,
    g__law_divisor := He.glo_ok X G (c.fact 12 (f := .glo "_law_divisor") rfl),
    fd__law_made := fd__law_made,
    F__law_made := F__law_made,
    b__law_made := FunD.bindsN (ps := ["top", "bottom"]) F__law_made fun _ _ _ _ _ _ us hl => match us, hl with | [_, _], _ => rfl,
    g__law_made := He.glo_ok X G (c.fact 13 (f := .glo "_law_made") rfl),
    fd__law_pairs := fd__law_pairs,
    F__law_pairs := F__law_pairs,
    b__law_pairs := FunD.bindsN (ps := ["source", "most"]) F__law_pairs fun _ _ _ _ _ _ us hl => match us, hl with | [_, _], _ => rfl,
    g__law_pairs := He.glo_ok X G (c.fact 14 (f := .glo "_law_pairs") rfl),
    fd__law_sums := fd__law_sums,
    F__law_sums := F__law_sums,
    b__law_sums := FunD.bindsN (ps := ["given"]) F__law_sums fun _ _ _ _ _ _ us hl => match us, hl with | [_], _ => rfl,
    g__law_sums := He.glo_ok X G (c.fact 15 (f := .glo "_law_sums") rfl),
    fd__law_told := fd__law_told,
    F__law_told := F__law_told,
    b__law_told := FunD.bindsN (ps := ["door", "row", "thing"]) F__law_told fun _ _ _ _ _ _ us hl => match us, hl with | [_, _, _], _ => rfl,
    g__law_told := He.glo_ok X G (c.fact 16 (f := .glo "_law_told") rfl),
    fd__law_bad_pair := fd__law_bad_pair,
    F__law_bad_pair := F__law_bad_pair,
    b__law_bad_pair := FunD.bindsN (ps := ["source", "pair"]) F__law_bad_pair fun _ _ _ _ _ _ us hl => match us, hl with | [_, _], _ => rfl,
    g__law_bad_pair := He.glo_ok X G (c.fact 17 (f := .glo "_law_bad_pair") rfl),
    fd__law_holds := fd__law_holds,
    F__law_holds := F__law_holds,
    b__law_holds := FunD.bindsN (ps := ["source"]) F__law_holds fun _ _ _ _ _ _ us hl => match us, hl with | [_], _ => rfl,
    g__law_holds := He.glo_ok X G (c.fact 18 (f := .glo "_law_holds") rfl),
    fd_law := fd_law,
    F_law := F_law,
    b_law := FunD.bindsN (ps := ["script"]) F_law fun _ _ _ _ _ _ us hl => match us, hl with | [_], _ => rfl,
    g_law := He.glo_ok X G (c.fact 19 (f := .glo "law") rfl),
    g_PlanError := He.glo_ok X G (c.fact 20 (f := .glo "PlanError") rfl),
    g_InvalidFraction := He.glo_ok X G (c.fact 21 (f := .glo "InvalidFraction") rfl),
    g_InvalidRow := He.glo_ok X G (c.fact 22 (f := .glo "InvalidRow") rfl),
    g_InvalidTick := He.glo_ok X G (c.fact 23 (f := .glo "InvalidTick") rfl),
    g_InvalidName := He.glo_ok X G (c.fact 24 (f := .glo "InvalidName") rfl),
    g_InvalidTask := He.glo_ok X G (c.fact 25 (f := .glo "InvalidTask") rfl),
    g_InvalidNumber := He.glo_ok X G (c.fact 26 (f := .glo "InvalidNumber") rfl),
    g_InvalidTasks := He.glo_ok X G (c.fact 27 (f := .glo "InvalidTasks") rfl),
    g_Row := He.glo_ok X G (c.fact 28 (f := .glo "Row") rfl),
    cl_Row := He.cls_ok (c.fact 45 (f := .cls "Row") rfl),
    mk_Row := He.mkr_ok (c.fact 46 (f := .mkr "Row") rfl),
    na_Row__shares := He.noat_ok (c.fact 47 (f := .noat "Row" "_shares") rfl),
    me_Row___init__ := He.meth_ok (c.fact 48 (f := .meth "Row" "__init__") rfl),
    me_Row___add__ := He.meth_ok (c.fact 49 (f := .meth "Row" "__add__") rfl),
    me_Row___mul__ := He.meth_ok (c.fact 50 (f := .meth "Row" "__mul__") rfl),
    me_Row_moved := He.meth_ok (c.fact 51 (f := .meth "Row" "moved") rfl),
    me_Row_cut := He.meth_ok (c.fact 52 (f := .meth "Row" "cut") rfl),
    me_Row_at := He.meth_ok (c.fact 53 (f := .meth "Row" "at") rfl),
    me_Row_up_to := He.meth_ok (c.fact 54 (f := .meth "Row" "up_to") rfl),
    me_Row_pairs := He.meth_ok (c.fact 55 (f := .meth "Row" "pairs") rfl),
    m_ValueError := He.free_ok X G (c.fact 29 (f := .free "ValueError") rfl),
    m_isinstance := He.free_ok X G (c.fact 30 (f := .free "isinstance") rfl),
    m_int := He.free_ok X G (c.fact 31 (f := .free "int") rfl),
    m_bool := He.free_ok X G (c.fact 32 (f := .free "bool") rfl),
    m_tuple := He.free_ok X G (c.fact 33 (f := .free "tuple") rfl),
    m_list := He.free_ok X G (c.fact 34 (f := .free "list") rfl),
    m_len := He.free_ok X G (c.fact 35 (f := .free "len") rfl),
    m_all := He.free_ok X G (c.fact 36 (f := .free "all") rfl),
    m_sorted := He.free_ok X G (c.fact 37 (f := .free "sorted") rfl),
    m_range := He.free_ok X G (c.fact 38 (f := .free "range") rfl),
    m_abs := He.free_ok X G (c.fact 39 (f := .free "abs") rfl),
    m_enumerate := He.free_ok X G (c.fact 40 (f := .free "enumerate") rfl),
    m_max := He.free_ok X G (c.fact 41 (f := .free "max") rfl),
    m_min := He.free_ok X G (c.fact 42 (f := .free "min") rfl),
    m_repr := He.free_ok X G (c.fact 43 (f := .free "repr") rfl),
    m_dict := He.free_ok X G (c.fact 44 (f := .free "dict") rfl),
    k_int_int := tKit_ok (tst_at x 0 rfl),
    k_int_bool := tKit_ok (tst_at x 1 rfl),
    k_tuple := tKit_ok (tst_at x 2 rfl),
    k_lt_l := of_decide_eq_true (tst_at x 3 rfl),
    k_lt_t := of_decide_eq_true (tst_at x 4 rfl),
    k_lt_r := of_decide_eq_true (tst_at x 5 rfl),
    k_lt := fun t ht => of_decide_eq_true (List.all_eq_true.mp (tst_at x 6 rfl) t ht),
    k_row_int := of_decide_eq_true (tst_at x 7 rfl),
    zero := fun H => He.tupB_ok (tst_at x 8 rfl) H,
    g_ZERO := PySem.W.mg_of X G (He.eqO_ok (tst_at x 9 rfl)),
    g_gcd := tGlo_ok X G (tst_at x 10 rfl),
    first_Row := (tst_at x 11 rfl),
    ins_Row := tIns_ok (tst_at x 12 rfl),
    dfl0 := fun H => tNil0_ok (tst_at x 13 rfl) H,
    bin_add := tBin_ok (tst_at x 14 rfl),
    bin_mul := tBin_ok (tst_at x 15 rfl),
    sys := tSys_ok (tst_at x 16 rfl),
    kit := tKinds_ok (tst_at x 17 rfl),
    k_row := fun t ht => of_decide_eq_true (List.all_eq_true.mp (tst_at x 18 rfl) t ht),
    x_IR := (tst_at x 19 rfl),
    k_IR := (tst_at x 20 rfl),
    s_IR := of_decide_eq_true (tst_at x 21 rfl),
    t_IR := of_decide_eq_true (tst_at x 22 rfl),
    m_IR := of_decide_eq_true (tst_at x 23 rfl),
    e_IR := tExcC_ok (tst_at x 24 rfl),
    i_A_IR := of_decide_eq_true (tst_at x 25 rfl),
    i_V_IR := of_decide_eq_true (tst_at x 26 rfl),
    i_R_IR := of_decide_eq_true (tst_at x 27 rfl),
    i_T_IR := of_decide_eq_true (tst_at x 28 rfl),
    x_IT := (tst_at x 29 rfl),
    k_IT := (tst_at x 30 rfl),
    s_IT := of_decide_eq_true (tst_at x 31 rfl),
    t_IT := of_decide_eq_true (tst_at x 32 rfl),
    m_IT := of_decide_eq_true (tst_at x 33 rfl),
    e_IT := tExcC_ok (tst_at x 34 rfl),
    i_A_IT := of_decide_eq_true (tst_at x 35 rfl),
    i_V_IT := of_decide_eq_true (tst_at x 36 rfl),
    i_R_IT := of_decide_eq_true (tst_at x 37 rfl),
    i_T_IT := of_decide_eq_true (tst_at x 38 rfl),
    kb_Row___init___pairs := FunD.kbindsD (ps := ["self", "pairs"]) F_Row___init__ 1 ["pairs"] (@app3) (by simp [d_Row___init__, He.DefD.dvs]) vals_app3 (fun _ _ _ _ _ _ _ us its ws h1 h2 h3 => match us, its, ws, h1, h2, h3 with | [_], [_], [_], _, _, _ => ⟨_, rfl, rfl⟩) }⟩
end L05
set_option maxRecDepth 100000
set_option maxHeartbeats 4000000
namespace L05
open PySem PySem.Spec PyProof.Rows L2 Q7
section
variable {P : Program} {w : World} {K : PySem.W.Frag} {mg : Str → Option Value} {base : Heap}
/-! ### the world: whole numbers, fractions -/
def spWhole : Sp := fun vs H Q _ => ∃ n : Int, vs = [.int n] ∧ Q (.bl true) H
theorem ok_is_whole (T : Txt K mg) : FnOk P w K mg base CX0 1 (He.ga K "is_whole") T.fd_is_whole ["value"] spWhole := by
  refine T.F_is_whole.ok sc_is_whole (fun vs H Q E h => ?_) (fun cdv A outer s H vs Q E hr h => ⟨_, PSs.nox
    (pss_one (ps_ret (pe_and (pe_callB call_isi (by rfl) T.m_isinstance (by decide +kernel) (pa_cons (pv 0) (pa_cons (pe_bltn rfl T.m_int (v := .ty "int") (u := .type "int") (by decide +kernel) rfl) pa_nil))) (pe_one (pe_not (pe_callB call_isi (by rfl) T.m_isinstance (by decide +kernel) (pa_cons (pv 0) (pa_cons (pe_bltn rfl T.m_bool (v := .ty "bool") (u := .type "bool") (by decide +kernel) rfl) pa_nil)))))))), ?_⟩)
  · obtain ⟨n, rfl, _⟩ := h
    rfl
  · obtain ⟨n, rfl, hQ⟩ := h
    refine ⟨_, rfl, _, _, _, _, _, rfl, .ty _, .base (.int n), T.k_int_int, _, rfl, iteT ⟨_, rfl, _, _, _, _, _, rfl, .ty _, .base (.int n), T.k_int_bool, _, rfl, hQ⟩⟩
def spTick : Sp := fun vs H Q _ => ∃ n : Int, vs = [.int n] ∧ Q (.bl (decide (0 ≤ n))) H
theorem ok_is_tick (T : Txt K mg) : FnOk P w K mg base CX0 2 (He.ga K "is_tick") T.fd_is_tick ["value"] spTick := by
  refine T.F_is_tick.ok sc_is_tick (fun vs H Q E h => ?_) (fun cdv A outer s H vs Q E hr h => ⟨_, PSs.nox
    (pss_one (ps_ret (pe_and (pe_call (ok_is_whole T) (hr.mono (by decide)) (by rfl) T.g_is_whole T.F_is_whole.kp T.b_is_whole .nil pass0 (pa_cons (pv 0) pa_nil)) (pe_one (pe_cmpR op_ge (pv 0) pe_int (nomark _)))))), ?_⟩)
  · obtain ⟨n, rfl, _⟩ := h
    rfl
  · obtain ⟨n, rfl, hQ⟩ := h
    refine ⟨_, rfl, _, rfl, _, rfl, iteT ⟨_, rfl, _, _, rfl, rfl, ?_⟩⟩
    exact hQ
theorem tyT {H : Hp} {p : Addr} {xs : List V} (h : SqT K H p xs) : TyX K H (.ref p) (.type "tuple") := by
  rcases h with (h | ⟨o, h⟩) | ⟨o, us, n, h, hc, _⟩
  · exact .base (.tup h)
  · exact .fTuple h
  · exact .kTuple h hc
def spIsFr (K : PySem.W.Frag) : Sp := fun vs H Q _ => ∃ v q, vs = [v] ∧ FrV K H v q ∧ Q (.bl true) H
theorem ge_one (q : Rat) : decide ((1 : Int) ≤ (q.den : Int)) = true := decide_eq_true (by have := q.den_pos; omega)
theorem ok_is_fraction (T : Txt K mg) : FnOk P w K mg base CX0 2 (He.ga K "is_fraction") T.fd_is_fraction ["value"] (spIsFr K) := by
  refine T.F_is_fraction.ok sc_is_fraction (fun vs H Q E h => ?_) (fun cdv A outer s H vs Q E hr h => ⟨_, PSs.nox
    (pss_cons (ps_if (PW.pt (pw_or (pt_not (pt_val (pe_callB call_isi (by rfl) T.m_isinstance (by decide +kernel) (pa_cons (pv 0) (pa_cons (pe_bltn rfl T.m_tuple (v := .ty "tuple") (u := .type "tuple") (by decide +kernel) rfl) pa_nil))))) (pw_or1 (pt_cmpR op_ne (pe_callB call_len_seq (by rfl) T.m_len (by decide +kernel) (pa_cons (pv 0) pa_nil)) pe_int (nomark _))))) (pss_one (ps_ret pe_bl)) pss_nil)
      (pss_cons (ps_asg (pv 0) (pg_tup rfl (pgs_cons (pg_name (i := 1) sc_is_fraction.nd rfl (.inl rfl)) (pgs_cons (pg_name (i := 2) sc_is_fraction.nd rfl (.inl rfl)) pgs_nil))))
      (pss_one (ps_ret (pe_and (pe_call (ok_is_whole T) (hr.mono (by decide)) (by rfl) T.g_is_whole T.F_is_whole.kp T.b_is_whole .nil pass0 (pa_cons (pv 1) pa_nil)) (pe_and (pe_call (ok_is_whole T) (hr.mono (by decide)) (by rfl) T.g_is_whole T.F_is_whole.kp T.b_is_whole .nil pass0 (pa_cons (pv 2) pa_nil)) (pe_and (pe_cmpR op_ge (pv 2) pe_int (nomark _)) (pe_one (pe_cmpR op_eq (pe_callBfun cr_gcd (by rfl) T.g_gcd (pa_cons (pv 1) (pa_cons (pv 2) pa_nil))) pe_int (nomark _)))))))))), ?_⟩)
  · obtain ⟨v, q, rfl, _⟩ := h
    rfl
  · obtain ⟨v, q, rfl, ⟨p, rfl, S⟩, hQ⟩ := h
    refine ⟨_, rfl, _, _, _, _, _, rfl, .ty _, tyT S, T.k_tuple, _, rfl, iteF ⟨_, rfl, _, _, rfl, .inr S, rfl, _, rfl, iteF ?_⟩⟩
    refine ⟨_, rfl, _, _, rfl, S, rfl, _, _, rfl, _, _, rfl, rfl, ?_⟩
    refine ⟨_, rfl, _, rfl, _, rfl, iteT ⟨_, rfl, _, rfl, _, rfl, iteT ⟨_, rfl, _, _, rfl, rfl, _, rfl, ?_⟩⟩⟩
    rw [show (decide ((1 : Int) ≤ (q.den : Int))) = true from ge_one q]
    refine iteT ⟨_, rfl, _, rfl, _, _, rfl, rfl, ?_⟩
    rw [rat_gcd q]
    exact hQ
def spChkF (K : PySem.W.Frag) : Sp := fun vs H Q _ => ∃ u v p q, vs = [u, v] ∧ FrV K H u p ∧ FrV K H v q ∧ Q .non H
def spRed (K : PySem.W.Frag) : Sp := fun vs H Q _ => ∃ a b : Int, vs = [.int a, .int b] ∧ b ≠ 0 ∧ b.natAbs < 2 ^ 8000 ∧ ∀ v H', Same H H' → FrV K H' v (Rat.divInt a b) → Q v H'
theorem gcd_ok {a b : Int} (hb : b ≠ 0) (hl : b.natAbs < 2 ^ 8000) (i : Int) (d : Int) (hd : d = -((Nat.gcd a.natAbs b.natAbs : Nat) : Int) ∨ d = ((Nat.gcd a.natAbs b.natAbs : Nat) : Int)) : CDivA i d := by
  have h0 : 0 < Nat.gcd a.natAbs b.natAbs := Nat.gcd_pos_of_pos_right _ (by omega)
  have h1 : Nat.gcd a.natAbs b.natAbs ≤ b.natAbs := Nat.le_of_dvd (by omega) (Nat.gcd_dvd_right _ _)
  refine cdiv_of (b := 8000) ?_ ?_ (by omega) (by omega)
  · rcases hd with rfl | rfl <;> omega
  · have : d.natAbs = Nat.gcd a.natAbs b.natAbs := by rcases hd with rfl | rfl <;> omega
    rw [this]
    exact Nat.lt_of_le_of_lt h1 hl
theorem two_le : 2 ≤ sizeLine := by decide
theorem ok__reduced (T : Txt K mg) : FnOk P w K mg base CX0 1 (He.ga K "_reduced") T.fd__reduced ["top", "bottom"] (spRed K) := by
  refine T.F__reduced.ok sc__reduced (fun vs H Q E h => ?_) (fun cdv A outer s H vs Q E hr h => ⟨_, PSs.nox
    (pss_cons (ps_set (i := 2) sc__reduced.nd rfl (.inl rfl) (pe_callBfun cr_gcd (by rfl) T.g_gcd (pa_cons (pv 0) (pa_cons (pv 1) pa_nil))))
      (pss_cons (ps_if (pt_cmpR op_lt (pv 1) pe_int (nomark _)) (pss_one (ps_set (i := 2) sc__reduced.nd rfl (.inl rfl) (pe_un un_neg (pv 2)))) pss_nil)
      (pss_one (ps_ret (pe_tup (pa_cons (pe_op op_fdivA (pv 0) (pv 2)) (pa_cons (pe_op op_fdivA (pv 1) (pv 2)) pa_nil))))))), ?_⟩)
  · obtain ⟨a, b, rfl, _⟩ := h
    rfl
  · obtain ⟨a, b, rfl, h0, hl, hQ⟩ := h
    refine ⟨_, rfl, _, rfl, _, _, rfl, ?_⟩
    obtain ⟨e1, e2, _⟩ := red a b h0 _ rfl
    refine ⟨_, rfl, _, _, rfl, rfl, _, rfl, ite2 (fun c => ?_) fun c => ?_⟩
    · have c1 : b < 0 := of_decide_eq_true c
      rw [if_pos c1] at e1 e2
      refine ⟨_, rfl, _, rfl, ?_⟩
      refine ⟨_, rfl, _, rfl, _, _, rfl, rfl, gcd_ok h0 hl _ _ (.inl rfl), _, rfl, _, rfl, _, _, rfl, rfl, gcd_ok h0 hl _ _ (.inl rfl), two_le, fun t ht => ?_⟩
      refine hQ _ _ (same_new ht) ⟨t, rfl, sqT_of ?_⟩
      rw [upd_same, ← e1, ← e2]
    · have c1 : ¬ b < 0 := fun q => c (decide_eq_true q)
      rw [if_neg c1] at e1 e2
      refine ⟨_, rfl, _, rfl, _, _, rfl, rfl, gcd_ok h0 hl _ _ (.inr rfl), _, rfl, _, rfl, _, _, rfl, rfl, gcd_ok h0 hl _ _ (.inr rfl), two_le, fun t ht => ?_⟩
      refine hQ _ _ (same_new ht) ⟨t, rfl, sqT_of ?_⟩
      rw [upd_same, ← e1, ← e2]
abbrev BN : Nat := 3000
theorem nmB {q : Rat} (h : B BN q) : q.num.natAbs < 2 ^ BN := h.1
theorem dnB {q : Rat} (h : B BN q) : ((q.den : Int)).natAbs < 2 ^ BN := by rw [Int.natAbs_natCast]; exact h.2
theorem mulW {i j : Int} (hi : i.natAbs < 2 ^ BN) (hj : j.natAbs < 2 ^ BN) : CMulW i j := cmul_of hi hj (by decide)
theorem mul8 {i j : Int} (hi : i.natAbs < 2 ^ BN) (hj : j.natAbs < 2 ^ BN) : (i * j).natAbs < 2 ^ 8000 := Nat.lt_of_lt_of_le (abs_mul_lt hi hj) (Nat.pow_le_pow_right (by decide) (by decide))
theorem den_ne (p q : Rat) : (p.den : Int) * q.den ≠ 0 := by have := den_mul_pos p q; omega
/-- two fractions in, one out -/
def spF2 (K : PySem.W.Frag) (f : Rat → Rat → Rat) : Sp := fun vs H Q _ => ∃ u v p q, vs = [u, v] ∧ FrV K H u p ∧ FrV K H v q ∧ B BN p ∧ B BN q ∧ ∀ x H', Same H H' → FrV K H' x (f p q) → Q x H'
theorem shF2 {K : PySem.W.Frag} {f : Rat → Rat → Rat} {vs : List V} {H : Hp} {Q : VK} {E : XK} (h : spF2 K f vs H Q E) : vs.length = 2 := by
  obtain ⟨u, v, p, q, rfl, _⟩ := h
  rfl
theorem ok__sum (T : Txt K mg) : FnOk P w K mg base CX0 2 (He.ga K "_sum") T.fd__sum ["one", "other"] (spF2 K (fun p q => p + q)) := by
  refine T.F__sum.ok sc__sum (fun vs H Q E h => ?_) (fun cdv A outer s H vs Q E hr h => ⟨_, PSs.nox
    (pss_one (ps_ret (pe_call (ok__reduced T) (hr.mono (by decide)) (by rfl) T.g__reduced T.F__reduced.kp T.b__reduced .nil pass0 (pa_cons (pe_op op_add (pe_op op_mulW (pe_ix ix_tup (pv 0) pe_int (fun _ _ => rfl)) (pe_ix ix_tup (pv 1) pe_int (fun _ _ => rfl))) (pe_op op_mulW (pe_ix ix_tup (pv 1) pe_int (fun _ _ => rfl)) (pe_ix ix_tup (pv 0) pe_int (fun _ _ => rfl)))) (pa_cons (pe_op op_mulW (pe_ix ix_tup (pv 0) pe_int (fun _ _ => rfl)) (pe_ix ix_tup (pv 1) pe_int (fun _ _ => rfl))) pa_nil))))), ?_⟩)
  · exact shF2 h
  · obtain ⟨_, _, p, q, rfl, ⟨a, rfl, S1⟩, ⟨b, rfl, S2⟩, b1, b2, hQ⟩ := h
    refine ⟨_, rfl, _, _, _, _, rfl, rfl, S1, rfl, _, rfl, _, _, _, _, rfl, rfl, S2, rfl, _, _, rfl, rfl, mulW (nmB b1) (dnB b2), ?_⟩
    refine ⟨_, rfl, _, _, _, _, rfl, rfl, S2, rfl, _, rfl, _, _, _, _, rfl, rfl, S1, rfl, _, _, rfl, rfl, mulW (nmB b2) (dnB b1), _, _, rfl, rfl, ?_⟩
    refine ⟨_, rfl, _, _, _, _, rfl, rfl, S1, rfl, _, rfl, _, _, _, _, rfl, rfl, S2, rfl, _, _, rfl, rfl, mulW (dnB b1) (dnB b2), ?_⟩
    refine ⟨_, _, rfl, den_ne p q, mul8 (dnB b1) (dnB b2), fun x H' s r => hQ x H' s ?_⟩
    show FrV K H' x (p + q)
    rw [add_eq]
    exact r
theorem ok__product (T : Txt K mg) : FnOk P w K mg base CX0 2 (He.ga K "_product") T.fd__product ["one", "other"] (spF2 K (fun p q => p * q)) := by
  refine T.F__product.ok sc__product (fun vs H Q E h => ?_) (fun cdv A outer s H vs Q E hr h => ⟨_, PSs.nox
    (pss_one (ps_ret (pe_call (ok__reduced T) (hr.mono (by decide)) (by rfl) T.g__reduced T.F__reduced.kp T.b__reduced .nil pass0 (pa_cons (pe_op op_mulW (pe_ix ix_tup (pv 0) pe_int (fun _ _ => rfl)) (pe_ix ix_tup (pv 1) pe_int (fun _ _ => rfl))) (pa_cons (pe_op op_mulW (pe_ix ix_tup (pv 0) pe_int (fun _ _ => rfl)) (pe_ix ix_tup (pv 1) pe_int (fun _ _ => rfl))) pa_nil))))), ?_⟩)
  · exact shF2 h
  · obtain ⟨_, _, p, q, rfl, ⟨a, rfl, S1⟩, ⟨b, rfl, S2⟩, b1, b2, hQ⟩ := h
    refine ⟨_, rfl, _, _, _, _, rfl, rfl, S1, rfl, _, rfl, _, _, _, _, rfl, rfl, S2, rfl, _, _, rfl, rfl, mulW (nmB b1) (nmB b2), ?_⟩
    refine ⟨_, rfl, _, _, _, _, rfl, rfl, S1, rfl, _, rfl, _, _, _, _, rfl, rfl, S2, rfl, _, _, rfl, rfl, mulW (dnB b1) (dnB b2), ?_⟩
    refine ⟨_, _, rfl, den_ne p q, mul8 (dnB b1) (dnB b2), fun x H' s r => hQ x H' s ?_⟩
    show FrV K H' x (p * q)
    rw [mul_eq]
    exact r
theorem frV_neg {H : Hp} {t : Addr} {q : Rat} (h : H t = some (.tup [.int (-q.num), .int q.den])) : FrV K H (.ref t) (-q) := ⟨t, rfl, sqT_of (by rw [Rat.neg_num, Rat.neg_den]; exact h)⟩
theorem B.neg' {n : Nat} {q : Rat} (h : B n q) : B n (-q) := B.neg h
def spFrac (K : PySem.W.Frag) : Sp := fun vs H Q _ => ∃ a b : Int, vs = [.int a, .int b] ∧ b ≠ 0 ∧ b.natAbs < 2 ^ 8000 ∧ ∀ v H', Same H H' → FrV K H' v (Rat.divInt a b) → Q v H'
def spLess (K : PySem.W.Frag) : Sp := fun vs H Q _ => ∃ u v p q, vs = [u, v] ∧ FrV K H u p ∧ FrV K H v q ∧ B BN p ∧ B BN q ∧ Q (.bl (decide (p.num * q.den < q.num * p.den))) H
def spOver (K : PySem.W.Frag) : Sp := fun vs H Q _ => ∃ u v p q, vs = [u, v] ∧ FrV K H u p ∧ FrV K H v q ∧ B BN p ∧ B BN q ∧ q ≠ 0 ∧ ∀ x H', Same H H' → FrV K H' x (p / q) → Q x H'
theorem num_ne {q : Rat} (h : q ≠ 0) : q.num ≠ 0 := fun e => h (Rat.num_eq_zero.mp e)
def spPairT (K : PySem.W.Frag) : Sp := fun vs H Q _ => ∃ v t, vs = [v] ∧ PrV K H v t ∧ 0 ≤ t.1 ∧ Q (.bl true) H
theorem ok__is_pair (T : Txt K mg) : FnOk P w K mg base CX0 3 (He.ga K "_is_pair") T.fd__is_pair ["value"] (spPairT K) := by
  refine T.F__is_pair.ok sc__is_pair (fun vs H Q E h => ?_) (fun cdv A outer s H vs Q E hr h => ⟨_, PSs.nox
    (pss_one (ps_ret (pe_and (pe_callB call_isi (by rfl) T.m_isinstance (by decide +kernel) (pa_cons (pv 0) (pa_cons (pe_bltn rfl T.m_tuple (v := .ty "tuple") (u := .type "tuple") (by decide +kernel) rfl) pa_nil))) (pe_and (pe_cmpR op_eq (pe_callB call_len_seq (by rfl) T.m_len (by decide +kernel) (pa_cons (pv 0) pa_nil)) pe_int (nomark _)) (pe_and (pe_call (ok_is_tick T) (hr.mono (by decide)) (by rfl) T.g_is_tick T.F_is_tick.kp T.b_is_tick .nil pass0 (pa_cons (pe_ix ix_tup (pv 0) pe_int (fun _ _ => rfl)) pa_nil)) (pe_one (pe_call (ok_is_fraction T) (hr.mono (by decide)) (by rfl) T.g_is_fraction T.F_is_fraction.kp T.b_is_fraction .nil pass0 (pa_cons (pe_ix ix_tup (pv 0) pe_int (fun _ _ => rfl)) pa_nil)))))))), ?_⟩)
  · obtain ⟨v, t, rfl, _⟩ := h
    rfl
  · obtain ⟨v, t, rfl, ⟨p, x, rfl, S, f⟩, h0, hQ⟩ := h
    refine ⟨_, rfl, _, _, _, _, _, rfl, .ty _, tyT S, T.k_tuple, _, rfl, iteT ⟨_, rfl, _, _, rfl, .inr S, rfl, _, rfl, iteT ?_⟩⟩
    refine ⟨_, rfl, _, _, _, _, rfl, rfl, S, rfl, _, rfl, _, rfl, ?_⟩
    rw [decide_eq_true h0]
    exact iteT ⟨_, rfl, _, _, _, _, rfl, rfl, S, rfl, _, _, rfl, f, hQ⟩
def spChkT : Sp := fun vs H Q _ => ∃ n : Int, vs = [.int n] ∧ 0 ≤ n ∧ Q .non H
theorem ok__check_tick (T : Txt K mg) : FnOk P w K mg base CX0 3 (He.ga K "_check_tick") T.fd__check_tick ["value"] spChkT := by
  refine T.F__check_tick.ok sc__check_tick (fun vs H Q E h => ?_) (fun cdv A outer s H vs Q E hr h => ⟨_, PSs.nox
    (pss_one (ps_if (pt_not (pt_val (pe_call (ok_is_tick T) (hr.mono (by decide)) (by rfl) T.g_is_tick T.F_is_tick.kp T.b_is_tick .nil pass0 (pa_cons (pv 0) pa_nil)))) (pss_one ps_never) pss_nil)), ?_⟩)
  · obtain ⟨n, rfl, _⟩ := h
    rfl
  · obtain ⟨n, rfl, h0, hQ⟩ := h
    refine ⟨_, rfl, _, rfl, _, rfl, ?_⟩
    rw [decide_eq_true h0]
    exact iteF hQ
theorem take_sum {qs : List Rat} {i : Nat} {q : Rat} (h : qs[i]? = some q) : (qs.take (i + 1)).sum = (qs.take i).sum + q := by
  rw [List.take_succ, h]
  simp [List.sum_append, Rat.add_zero]
theorem seqL_same {H H' : Hp} {a : Addr} {xs : List V} (h : SqL K H a xs) (s : Same H H') : SqL K H' a xs := Same.seq s h
/-- a list of fractions in, their sum -/
def spSumOf (K : PySem.W.Frag) : Sp := fun vs H Q _ => ∃ a xs qs, vs = [.ref a] ∧ SqL K H a xs ∧ Paired (FrV K H) xs qs ∧ (∀ i, B BN (qs.take i).sum) ∧ (∀ q ∈ qs, B BN q) ∧ ∀ x H', Same H H' → FrV K H' x qs.sum → Q x H'
theorem ok_sum_of (T : Txt K mg) : FnOk P w K mg base CX0 3 (He.ga K "sum_of") T.fd_sum_of ["fractions"] (spSumOf K) := by
  refine T.F_sum_of.ok sc_sum_of (fun vs H Q E h => ?_) (fun cdv A outer s H vs Q E hr h => ⟨_, PSs.nox
    (pss_cons (ps_set (i := 1) sc_sum_of.nd rfl (.inl rfl) (pe_glob (v := V.ref (He.ga K "ZERO")) rfl T.g_ZERO rfl))
      (pss_cons (ps_for PassesOwn.never rfl (pi_list (pv 0)) (pg_name (i := 2) sc_sum_of.nd rfl (.inl rfl)) (pss_one (ps_set (i := 1) sc_sum_of.nd rfl (.inl rfl) (pe_call (ok__sum T) (hr.mono (by decide)) (by rfl) T.g__sum T.F__sum.kp T.b__sum .nil pass0 (pa_cons (pv 1) (pa_cons (pv 2) pa_nil))))))
      (pss_one (ps_ret (pv 1))))), ?_⟩)
  · obtain ⟨a, xs, qs, rfl, _⟩ := h
    rfl
  · obtain ⟨a, xs, qs, rfl, S, hp, b1, b2, hQ⟩ := h
    refine ⟨_, rfl, a, rfl, ⟨_, S⟩, ?_⟩
    refine for_list (xs := xs) (fun i σ H' => Same H H' ∧ ∃ o t z, σ = [o, some t, z] ∧ FrV K H' t (qs.take i).sum) ⟨Same.refl H, _, _, _, rfl, ⟨_, rfl, T.zero H⟩⟩ (fun i σ H' _ p => seqL_same S p.1) ?_ ?_
    · rintro i x σ H' hx ⟨sm, o, t, z, rfl, ft⟩
      obtain ⟨q, hq, fx⟩ := pGet hp hx
      refine ⟨_, rfl, _, rfl, _, _, _, _, rfl, ft, frV_tk fx (same_tk sm), b1 i, b2 q (List.mem_of_getElem? hq), fun y H2 s2 r => ?_⟩
      exact ⟨sm.trans s2, _, _, _, rfl, by rw [take_sum hq]; exact r⟩
    · rintro σ H' ⟨sm, o, t, z, rfl, ft⟩
      rw [pLen hp, List.take_length] at ft
      exact ⟨_, rfl, hQ _ _ sm ft⟩
end
end L05
set_option maxRecDepth 100000
set_option maxHeartbeats 4000000
namespace L05
open PySem PySem.Spec PyProof.Rows L2 Q7
section
variable {P : Program} {w : World} {K : PySem.W.Frag} {mg : Str → Option Value} {base : Heap}
/-! ### any value -/
/-- of a kind, or a row -/
def KiR (K : PySem.W.Frag) (H : Hp) (v : V) (t : String) : Prop := Ki K H v t ∨ (t = "Row" ∧ ∃ x dx fs, v = .ref x ∧ H x = some (.ins (He.ga K "Row") dx fs))
def spWholeA (K : PySem.W.Frag) : Sp := fun vs H Q _ => ∃ v t, vs = [v] ∧ KiR K H v t ∧ Q (.bl (t == "int")) H
theorem ok_is_whole_A (T : Txt K mg) : FnOk P w K mg base CX0 1 (He.ga K "is_whole") T.fd_is_whole ["value"] (spWholeA K) := by
  refine T.F_is_whole.ok sc_is_whole (fun vs H Q E h => ?_) (fun cdv A outer s H vs Q E hr h => ⟨_, PSs.nox
    (pss_one (ps_ret (pe_and (pe_callB call_isi (by rfl) T.m_isinstance (by decide +kernel) (pa_cons (pv 0) (pa_cons (pe_bltn rfl T.m_int (v := .ty "int") (u := .type "int") (by decide +kernel) rfl) pa_nil))) (pe_one (pe_not (pe_callB call_isi (by rfl) T.m_isinstance (by decide +kernel) (pa_cons (pv 0) (pa_cons (pe_bltn rfl T.m_bool (v := .ty "bool") (u := .type "bool") (by decide +kernel) rfl) pa_nil)))))))), ?_⟩)
  · obtain ⟨v, t, rfl, _⟩ := h
    rfl
  · obtain ⟨v, t, rfl, ⟨ty, mem⟩ | ⟨rfl, x, dx, fs, rfl, hx⟩, hQ⟩ := h
    · have kt := T.kit t mem
      refine ⟨_, rfl, _, _, _, _, _, rfl, .ty _, ty, kt.int, _, rfl, ?_⟩
      by_cases e : t = "int"
      · subst e
        exact iteT ⟨_, rfl, _, _, _, _, _, rfl, .ty _, ty, kt.bool, _, rfl, hQ⟩
      · by_cases e2 : t = "bool"
        · subst e2
          exact iteT ⟨_, rfl, _, _, _, _, _, rfl, .ty _, ty, kt.bool, _, rfl, hQ⟩
        · rw [show (t == "int" || t == "bool") = false by simp [e, e2]]
          rw [show (t == "int") = false by simp [e]] at hQ
          exact iteF hQ
    · exact ⟨_, rfl, _, _, _, _, _, rfl, .ty _, T.ins_Row.ty T.cl_Row hx, T.k_row_int, _, rfl, iteF hQ⟩
def NoTick (K : PySem.W.Frag) (H : Hp) (v : V) : Prop := (∃ t, KiR K H v t ∧ t ≠ "int") ∨ ∃ n : Int, v = .int n ∧ n < 0
def spTickA (K : PySem.W.Frag) : Sp := fun vs H Q _ => ∃ v, vs = [v] ∧ NoTick K H v ∧ Q (.bl false) H
theorem ok_is_tick_A (T : Txt K mg) : FnOk P w K mg base CX0 2 (He.ga K "is_tick") T.fd_is_tick ["value"] (spTickA K) := by
  refine T.F_is_tick.ok sc_is_tick (fun vs H Q E h => ?_) (fun cdv A outer s H vs Q E hr h => ⟨_, PSs.nox
    (pss_one (ps_ret (pe_and (pe_call (ok_is_whole_A T) (hr.mono (by decide)) (by rfl) T.g_is_whole T.F_is_whole.kp T.b_is_whole .nil pass0 (pa_cons (pv 0) pa_nil)) (pe_one (pe_cmpR op_ge (pv 0) pe_int (nomark _)))))), ?_⟩)
  · obtain ⟨v, rfl, _⟩ := h
    rfl
  · obtain ⟨v, rfl, h, hQ⟩ := h
    rcases h with ⟨t, k, ne⟩ | ⟨n, rfl, hn⟩
    · refine ⟨_, rfl, v, t, rfl, k, _, rfl, ?_⟩
      rw [show (t == "int") = false by simp [ne]]
      exact iteF hQ
    · refine ⟨_, rfl, _, "int", rfl, .inl (ki_int n), _, rfl, iteT ⟨_, rfl, _, _, rfl, rfl, ?_⟩⟩
      show Q (.bl (decide (0 ≤ n))) H
      rw [decide_eq_false (by omega)]
      exact hQ
def spNoFr (K : PySem.W.Frag) : Sp := fun vs H Q _ => ∃ v, vs = [v] ∧ NoFr K H v ∧ Q (.bl false) H
theorem ok_is_fraction_A (T : Txt K mg) : FnOk P w K mg base CX0 2 (He.ga K "is_fraction") T.fd_is_fraction ["value"] (spNoFr K) := by
  refine T.F_is_fraction.ok sc_is_fraction (fun vs H Q E h => ?_) (fun cdv A outer s H vs Q E hr h => ⟨_, PSs.nox
    (pss_cons (ps_if (PW.pt (pw_or (pt_not (pt_val (pe_callB call_isi (by rfl) T.m_isinstance (by decide +kernel) (pa_cons (pv 0) (pa_cons (pe_bltn rfl T.m_tuple (v := .ty "tuple") (u := .type "tuple") (by decide +kernel) rfl) pa_nil))))) (pw_or1 (pt_cmpR op_ne (pe_callB call_len_seq (by rfl) T.m_len (by decide +kernel) (pa_cons (pv 0) pa_nil)) pe_int (nomark _))))) (pss_one (ps_ret pe_bl)) pss_nil)
      (pss_cons (ps_asg (pv 0) (pg_tup rfl (pgs_cons (pg_name (i := 1) sc_is_fraction.nd rfl (.inl rfl)) (pgs_cons (pg_name (i := 2) sc_is_fraction.nd rfl (.inl rfl)) pgs_nil))))
      (pss_one (ps_ret (pe_and (pe_call (ok_is_whole_A T) (hr.mono (by decide)) (by rfl) T.g_is_whole T.F_is_whole.kp T.b_is_whole .nil pass0 (pa_cons (pv 1) pa_nil)) (pe_and (pe_call (ok_is_whole_A T) (hr.mono (by decide)) (by rfl) T.g_is_whole T.F_is_whole.kp T.b_is_whole .nil pass0 (pa_cons (pv 2) pa_nil)) (pe_and (pe_cmpR op_ge (pv 2) pe_int (nomark _)) (pe_one (pe_cmpR op_eq (pe_callBfun cr_gcd (by rfl) T.g_gcd (pa_cons (pv 1) (pa_cons (pv 2) pa_nil))) pe_int (nomark _)))))))))), ?_⟩)
  · obtain ⟨v, rfl, _⟩ := h
    rfl
  · obtain ⟨v, rfl, hn, hQ⟩ := h
    have tup : ∀ {p : Addr} {xs : List V}, SqT K H p xs → PySem.W.kitOne K (.type "tuple") (.type "tuple") = some true := fun _ => T.k_tuple
    cases hn with
    | @kind _ t k ne =>
      have kt := (T.kit t k.2).tup
      rw [show (t == "tuple") = false by simp [ne]] at kt
      exact ⟨_, rfl, _, _, _, _, _, rfl, .ty _, k.1, kt, _, rfl, iteT hQ⟩
    | @many p xs S ne =>
      refine ⟨_, rfl, _, _, _, _, _, rfl, .ty _, tyT S, T.k_tuple, _, rfl, iteF ⟨_, rfl, _, _, rfl, .inr S, rfl, _, rfl, ?_⟩⟩
      rw [show (!decide (V.int (xs.length : Int) = V.int 2)) = true by
        rw [decide_eq_false fun e => ne (by have := V.int.inj e; omega)]; rfl]
      exact iteT hQ
    | @top p x y t S k ne =>
      refine ⟨_, rfl, _, _, _, _, _, rfl, .ty _, tyT S, T.k_tuple, _, rfl, iteF ⟨_, rfl, _, _, rfl, .inr S, rfl, _, rfl, iteF ?_⟩⟩
      refine ⟨_, rfl, _, _, rfl, S, rfl, _, _, rfl, _, _, rfl, rfl, ?_⟩
      refine ⟨_, rfl, _, t, rfl, .inl k, _, rfl, ?_⟩
      rw [show (t == "int") = false by simp [ne]]
      exact iteF hQ
    | @bot p a y t S k ne =>
      refine ⟨_, rfl, _, _, _, _, _, rfl, .ty _, tyT S, T.k_tuple, _, rfl, iteF ⟨_, rfl, _, _, rfl, .inr S, rfl, _, rfl, iteF ?_⟩⟩
      refine ⟨_, rfl, _, _, rfl, S, rfl, _, _, rfl, _, _, rfl, rfl, ?_⟩
      refine ⟨_, rfl, _, "int", rfl, .inl (ki_int a), _, rfl, iteT ⟨_, rfl, _, t, rfl, .inl k, _, rfl, ?_⟩⟩
      rw [show (t == "int") = false by simp [ne]]
      exact iteF hQ
    | @low p a b S why =>
      refine ⟨_, rfl, _, _, _, _, _, rfl, .ty _, tyT S, T.k_tuple, _, rfl, iteF ⟨_, rfl, _, _, rfl, .inr S, rfl, _, rfl, iteF ?_⟩⟩
      refine ⟨_, rfl, _, _, rfl, S, rfl, _, _, rfl, _, _, rfl, rfl, ?_⟩
      refine ⟨_, rfl, _, "int", rfl, .inl (ki_int a), _, rfl, iteT ⟨_, rfl, _, "int", rfl, .inl (ki_int b), _, rfl, iteT ⟨_, rfl, _, _, rfl, rfl, _, rfl, ?_⟩⟩⟩
      by_cases hb : 1 ≤ b
      · rw [decide_eq_true hb]
        refine iteT ⟨_, rfl, _, rfl, _, _, rfl, rfl, ?_⟩
        have hg : Nat.gcd a.natAbs b.natAbs ≠ 1 := why.resolve_left (by omega)
        rw [decide_eq_false fun e => hg (by have := V.int.inj e; omega)]
        exact hQ
      · rw [decide_eq_false hb]
        exact iteF hQ

theorem ok_is_tick_E (T : Txt K mg) : FnOk P w K mg base CX0 2 (He.ga K "is_tick") T.fd_is_tick ["value"] (fun vs H Q E => spTick vs H Q E ∨ spTickA K vs H Q E) := fnOk_or (ok_is_tick T) (ok_is_tick_A T)
theorem ok_is_fraction_E (T : Txt K mg) : FnOk P w K mg base CX0 2 (He.ga K "is_fraction") T.fd_is_fraction ["value"] (fun vs H Q E => spIsFr K vs H Q E ∨ spNoFr K vs H Q E) := fnOk_or (ok_is_fraction T) (ok_is_fraction_A T)
/-- why a value is no pair of a tick and a fraction -/
inductive NoPr (K : PySem.W.Frag) (H : Hp) : V → Prop where
  | kind {v : V} {t : String} : Ki K H v t → t ≠ "tuple" → NoPr K H v
  | many {p : Addr} {xs : List V} : SqT K H p xs → xs.length ≠ 2 → NoPr K H (.ref p)
  | tick {p : Addr} {x y : V} : SqT K H p [x, y] → NoTick K H x → NoPr K H (.ref p)
  | share {p : Addr} {n : Int} {y : V} : SqT K H p [.int n, y] → 0 ≤ n → NoFr K H y → NoPr K H (.ref p)
def spNoPr (K : PySem.W.Frag) : Sp := fun vs H Q _ => ∃ v, vs = [v] ∧ NoPr K H v ∧ Q (.bl false) H
theorem ok__is_pair_N (T : Txt K mg) : FnOk P w K mg base CX0 3 (He.ga K "_is_pair") T.fd__is_pair ["value"] (spNoPr K) := by
  refine T.F__is_pair.ok sc__is_pair (fun vs H Q E h => ?_) (fun cdv A outer s H vs Q E hr h => ⟨_, PSs.nox
    (pss_one (ps_ret (pe_and (pe_callB call_isi (by rfl) T.m_isinstance (by decide +kernel) (pa_cons (pv 0) (pa_cons (pe_bltn rfl T.m_tuple (v := .ty "tuple") (u := .type "tuple") (by decide +kernel) rfl) pa_nil))) (pe_and (pe_cmpR op_eq (pe_callB call_len_seq (by rfl) T.m_len (by decide +kernel) (pa_cons (pv 0) pa_nil)) pe_int (nomark _)) (pe_and (pe_call (ok_is_tick_E T) (hr.mono (by decide)) (by rfl) T.g_is_tick T.F_is_tick.kp T.b_is_tick .nil pass0 (pa_cons (pe_ix ix_tup (pv 0) pe_int (fun _ _ => rfl)) pa_nil)) (pe_one (pe_call (ok_is_fraction_E T) (hr.mono (by decide)) (by rfl) T.g_is_fraction T.F_is_fraction.kp T.b_is_fraction .nil pass0 (pa_cons (pe_ix ix_tup (pv 0) pe_int (fun _ _ => rfl)) pa_nil)))))))), ?_⟩)
  · obtain ⟨v, rfl, _⟩ := h
    rfl
  · obtain ⟨v, rfl, hn, hQ⟩ := h
    cases hn with
    | @kind _ t k ne =>
      have kt := (T.kit t k.2).tup
      rw [show (t == "tuple") = false by simp [ne]] at kt
      exact ⟨_, rfl, _, _, _, _, _, rfl, .ty _, k.1, kt, _, rfl, iteF hQ⟩
    | @many p xs S ne =>
      refine ⟨_, rfl, _, _, _, _, _, rfl, .ty _, tyT S, T.k_tuple, _, rfl, iteT ⟨_, rfl, _, _, rfl, .inr S, rfl, _, rfl, ?_⟩⟩
      rw [show decide (V.int (xs.length : Int) = V.int 2) = false from decide_eq_false fun e => ne (by have := V.int.inj e; omega)]
      exact iteF hQ
    | @tick p x y S nt =>
      refine ⟨_, rfl, _, _, _, _, _, rfl, .ty _, tyT S, T.k_tuple, _, rfl, iteT ⟨_, rfl, _, _, rfl, .inr S, rfl, _, rfl, iteT ?_⟩⟩
      exact ⟨_, rfl, _, _, _, _, rfl, rfl, S, rfl, .inr ⟨_, rfl, nt, _, rfl, iteF hQ⟩⟩
    | @share p n y S h0 nf =>
      refine ⟨_, rfl, _, _, _, _, _, rfl, .ty _, tyT S, T.k_tuple, _, rfl, iteT ⟨_, rfl, _, _, rfl, .inr S, rfl, _, rfl, iteT ?_⟩⟩
      refine ⟨_, rfl, _, _, _, _, rfl, rfl, S, rfl, .inl ⟨_, rfl, _, rfl, ?_⟩⟩
      rw [decide_eq_true h0]
      exact iteT ⟨_, rfl, _, _, _, _, rfl, rfl, S, rfl, .inr ⟨_, rfl, nf, hQ⟩⟩
end
end L05
set_option maxRecDepth 100000
set_option maxHeartbeats 4000000
namespace L05
open PySem PySem.Spec PyProof.Rows L2 Q7
section
variable {P : Program} {w : World} {K : PySem.W.Frag} {mg : Str → Option Value} {base : Heap}
/-! ### rows: __init__ -/
theorem sqL_same {H H' : Hp} {a : Addr} {xs : List V} (h : SqL K H a xs) (s : Same H H') : SqL K H' a xs := Same.seq s h
theorem sqT_same {H H' : Hp} {a : Addr} {xs : List V} (h : SqT K H a xs) (s : Same H H') : SqT K H' a xs := sqT_tk h (same_tk s)
abbrev RC (K : PySem.W.Frag) : Addr := He.ga K "Row"
def spInit (K : PySem.W.Frag) : Sp := fun vs H Q _ => ∃ x dx l xs ps, vs = [.ref x, .ref l] ∧ H x = some (.ins (RC K) dx []) ∧ SqL K H l xs ∧ PrsV K H xs ps ∧ Gw ps ∧
  ∀ H', (∀ b o, H b = some o → b ≠ x → H' b = some o) → RowAt K (RC K) H' (.ref x) (norm ps) → Q .non H'
theorem line64 : 64 < sizeLine := by decide
theorem rep_all (n : Nat) : (List.replicate n true).all id = true := by
  induction n with
  | zero => rfl
  | succ k ih => rw [List.replicate_succ]; exact ih
theorem rep_snoc {α : Type} (n : Nat) (x : α) : List.replicate n x ++ [x] = List.replicate (n + 1) x := List.replicate_succ'.symm
theorem ok_Row___init__ (T : Txt K mg) : FnOk P w K mg base CX0 4 (He.ma K (He.ga K "Row") "__init__") T.fd_Row___init__ ["self", "pairs"] (spInit K) := by
  refine T.F_Row___init__.ok sc_Row___init__ (fun vs H Q E h => ?_) (fun cdv A outer s H vs Q E hr h => ⟨_, PSs.nox
    (pss_cons (ps_if (PW.pt (pw_or (pt_not (pt_val (pe_callB call_isiT (by rfl) T.m_isinstance (by decide +kernel) (pa_cons (pv 1) (pa_cons (pe_tup (pa_cons (pe_bltn rfl T.m_list (v := .ty "list") (u := .type "list") (by decide +kernel) rfl) (pa_cons (pe_bltn rfl T.m_tuple (v := .ty "tuple") (u := .type "tuple") (by decide +kernel) rfl) pa_nil))) pa_nil))))) (pw_or1 (pt_not (pt_val (pe_callB (cr_all rfl) (by rfl) T.m_all (by decide +kernel) (pa_cons (pe_lc (own := [("pair", 5)]) rfl sc_Row___init__.nd (pi_list (pv 1)) (blkOk_by (N := ["self", "pairs", "sums", "tick", "share", "pair"]) (sc := defScope s_Row___init__) (by decide +kernel)) (fun _ _ _ _ _ => (pg_name (i := 5) sc_Row___init__.nd rfl (.inl rfl) (hf := .inr rfl))) (fun _ _ _ _ _ => pts_nil) (fun _ _ _ _ _ => (pe_call (ok__is_pair T) (hr.mono (by decide)) (by rfl) T.g__is_pair T.F__is_pair.kp T.b__is_pair .nil pass0 (pa_cons (pv 5) pa_nil)))) pa_nil))))))) (pss_one ps_never) pss_nil)
      (pss_cons (ps_set (i := 2) sc_Row___init__.nd rfl (.inr rfl) pe_dnewK)
      (pss_cons (ps_for PassesOwn.never rfl (pi_list (pv 1)) (pg_tup rfl (pgs_cons (pg_name (i := 3) sc_Row___init__.nd rfl (.inl rfl)) (pgs_cons (pg_name (i := 4) sc_Row___init__.nd rfl (.inl rfl)) pgs_nil))) (pss_one (ps_dput (hu_of hr) (pv 2) (pv 3) (pe_call (ok__sum T) (hr.mono (by decide)) (by rfl) T.g__sum T.F__sum.kp T.b__sum .nil pass0 (pa_cons (pe_dget2 (hu_of hr) (pv 2) (pv 3) (pe_glob (v := V.ref (He.ga K "ZERO")) rfl T.g_ZERO rfl) ⟨by rfl, by rfl, by rfl, by rfl⟩) (pa_cons (pv 4) pa_nil))) rfl)))
      (pss_one (ps_fld (pv 0) (pe_dc (own := [("tick", 3)]) rfl sc_Row___init__.nd (pi_list (pe_callB (call_sortedDIb rfl) (by rfl) T.m_sorted (by decide +kernel) (pa_cons (pv 2) pa_nil))) (blkOk_by (N := ["self", "pairs", "sums", "tick", "share", "pair"]) (sc := defScope s_Row___init__) (by decide +kernel)) (fun _ _ _ _ _ => (pg_name (i := 3) sc_Row___init__.nd rfl (.inl rfl) (hf := .inr rfl))) (fun _ _ _ _ _ => (pts_one (pt_cmpR (show OpR _ (compareOp .NotEq) (rNeD K) from (op_neD hr.units)) (pe_dget (hu_of hr) (pv 2) (pv 3) (fun _ _ => rfl)) (pe_glob (v := V.ref (He.ga K "ZERO")) rfl T.g_ZERO rfl) (nomark _)))) (fun _ _ _ _ _ => (pv 3)) (fun _ _ _ _ _ => (pe_dget (hu_of hr) (pv 2) (pv 3) (fun _ _ => rfl)))) rfl))))), ?_⟩)
  · obtain ⟨x, dx, l, xs, ps, rfl, _⟩ := h
    rfl
  · obtain ⟨x, dx, l, xs, ps, rfl, hx, S, hp, g, hQ⟩ := h
    have hlen : xs.length ≤ 2100 := by rw [pLen hp]; exact g.len
    have hlen2 : (sums ps).length ≤ 2100 := by have := sums_len ps; have := g.len; omega
    refine ⟨_, rfl, two_le, fun tp htp => ⟨_, tp, _, _, _, _, rfl, upd_same, .cons (.ty _) (.cons (.ty _) .nil), tyL (sqL_same S (same_new htp)), T.k_lt_l, _, rfl, iteF ?_⟩⟩
    have s1 := same_new (o := .tup [.ty "list", .ty "tuple"]) htp
    refine ⟨_, rfl, l, rfl, ⟨_, sqL_same S s1⟩, fun D hD => ?_⟩
    refine lc_list (xs := xs) (fun i H' => Same (upd H tp (.tup [.ty "list", .ty "tuple"])) H' ∧ H' D = some (.lst (List.replicate i (.bl true)))) ⟨same_new hD, upd_same⟩ (fun i H' _ p => sqL_same S (s1.trans p.1)) ?_ ?_
    · rintro i v H' hv ⟨sm, hd⟩
      obtain ⟨p, hq, fx⟩ := pGet hp hv
      refine ⟨rfl, ?_⟩
      refine ⟨_, rfl, _, p, rfl, prV_tk fx (same_tk (s1.trans sm)), g.lo p (List.mem_of_getElem? hq), _, hd, ?_, same_mut sm hD, ?_⟩
      · rw [List.length_replicate]
        have := (List.getElem?_eq_some_iff.mp hv).1
        have := line22
        omega
      · rw [upd_same, rep_snoc]
    · rintro H2 ⟨sm2, hd2⟩
      refine ⟨D, List.replicate xs.length true, rfl, sqL_of (by rw [hd2, List.map_replicate]), _, rfl, ?_⟩
      rw [rep_all]
      refine iteF ?_
      have s2 := s1.trans sm2
      intro d hd
      refine ⟨_, rfl, l, rfl, ⟨_, sqL_same S (s2.trans (same_new hd))⟩, ?_⟩
      refine for_list (xs := xs) (fun i σ H' => Same H2 H' ∧ ∃ ks o3 o4 o5, H' d = some (.dK ks) ∧ KvF K H' ks (sums (ps.take i)) ∧ σ = [some (.ref x), some (.ref l), some (.ref d), o3, o4, o5]) ⟨same_new hd, [], _, _, _, upd_same, .nil, rfl⟩ (fun i σ H' _ p => sqL_same S (s2.trans p.1)) ?_ ?_
      · rintro i v σ H' hv ⟨sm, ks, o3, o4, o5, hk, hK, rfl⟩
        obtain ⟨p, hq, ⟨pa, y, rfl, Sp, fy⟩⟩ := pGet hp hv
        have hH := s2.trans sm
        refine ⟨pa, _, rfl, sqT_same Sp hH, rfl, _, _, rfl, _, _, rfl, rfl, ?_⟩
        have hmem := List.mem_of_getElem? hq
        have hdg : DGet H' d (.int p.1) (valV ks (Sum.inl p.1)) := DGet.k (k := Sum.inl p.1) hk
        have hf : FrV K H' ((valV ks (Sum.inl p.1)).getD (.ref (He.ga K "ZERO"))) (look (sums (ps.take i)) p.1) := by
          rcases kvF_get p.1 hK with ⟨a, _, c⟩ | ⟨w, a, _, c⟩
          · rw [a, c]
            exact ⟨_, rfl, T.zero H'⟩
          · rw [a]
            exact c
        refine ⟨_, rfl, d, rfl, .inl ⟨ks, .inl hk⟩, _, rfl, _, hdg, _, rfl, _, _, _, _, rfl, hf, frV_same fy hH, g.look i p.1, g.mem p hmem, fun z H3 s3 r => ?_⟩
        refine ⟨_, rfl, _, rfl, d, _, rfl, DPut.k (k := Sum.inl p.1) (s3 _ _ hk) ?_, ?_⟩
        · have h1 := hK.length
          have h2 := sums_len (ps.take i)
          have h3 := line22
          have h4 := g.len
          rw [List.length_take] at h2
          omega
        · refine ⟨same_mut (sm.trans s3) hd, _, _, _, _, upd_same, ?_, rfl⟩
          rw [sums_take hq]
          exact kvF_tk (kvF_put (kvF_tk hK (same_tk s3)) (sums_nodup _) r) (tk_dk (s3 _ _ hk))
      · rintro σ H3 ⟨sm3, ks, o3, o4, o5, hk, hK, rfl⟩
        rw [pLen hp, List.take_length] at hK
        have s3 := s2.trans sm3
        refine ⟨_, rfl, d, ks, (sums ps).map (·.1), rfl, .inl hk, kvF_keys hK, ?_, fun ys sp hperm hsort hsp => ⟨sp, rfl, ⟨_, sqL_of upd_same⟩, fun D2 hD2 => ?_⟩⟩
        · rw [List.length_map]; omega
        have nd : ys.Nodup := hperm.nodup_iff.mpr (sums_nodup ps)
        have ylen : ys.length ≤ 2100 := by rw [hperm.length_eq, List.length_map]; exact hlen2
        have s4 := same_new (o := .lst (ys.map V.int)) hsp
        refine dc_list (xs := ys.map V.int) (fun i H' => Same (upd H3 sp (.lst (ys.map V.int))) H' ∧ ∃ k2, H' D2 = some (.dK k2) ∧ KvF K H' k2 (pick (sums ps) (ys.take i))) ⟨same_new hD2, [], upd_same, .nil⟩ (fun i H' _ p => sqL_of (p.1 _ _ upd_same)) ?_ ?_
        · rintro i v H' hv ⟨sm, k2, hk2, hK2⟩
          have hi : i < ys.length := by
            have := (List.getElem?_eq_some_iff.mp hv).1
            rwa [List.length_map] at this
          obtain ⟨t, ht, rfl⟩ : ∃ t, ys[i]? = some t ∧ v = .int t := by
            rw [List.getElem?_map] at hv
            obtain ⟨t, a, b⟩ := Option.map_eq_some_iff.mp hv
            exact ⟨t, a, b.symm⟩
          have hK' := kvF_tk hK (same_tk (s4.trans sm))
          have hk' := sm _ _ (s4 _ _ hk)
          have hg : DGet H' d (.int t) (valV ks (Sum.inl t)) := DGet.k (k := Sum.inl t) hk'
          obtain ⟨w, a, ft⟩ : ∃ w, valV ks (Sum.inl t) = some w ∧ FrV K H' w (look (sums ps) t) := by
            rcases kvF_get t hK' with ⟨a, b, c⟩ | ⟨w, a, b, c⟩
            · exact absurd (hperm.mem_iff.mp (List.mem_of_getElem? ht)) b
            · exact ⟨w, a, c⟩
          rw [a] at hg
          refine ⟨rfl, ?_⟩
          refine ⟨_, rfl, _, rfl, d, w, rfl, hg, _, _, frV_dp ft, frV_dp (q := 0) ⟨_, rfl, T.zero H'⟩, sh_fr _, sh_fr 0, _, rfl, ?_⟩
          rw [eqv_fr]
          by_cases hz : look (sums ps) t = 0
          · rw [decide_eq_true hz]
            refine iteF ?_
            exact ⟨sm, k2, hk2, by rw [pick_snoc ht, if_pos hz]; exact hK2⟩
          · rw [decide_eq_false hz]
            refine iteT ?_
            refine ⟨_, rfl, _, rfl, _, rfl, d, w, rfl, hg, k2, Sum.inl t, rfl, hk2, ?_, ?_⟩
            · have h1 := hK2.length
              have h2 : (pick (sums ps) (ys.take i)).length ≤ i := by
                unfold pick
                refine Nat.le_trans (List.length_filter_le _ _) ?_
                rw [List.length_map, List.length_take]
                omega
              have h3 := line22
              omega
            · refine ⟨same_mut sm hD2, _, upd_same, ?_⟩
              have hn : valV k2 (Sum.inl t) = none := by
                rcases kvF_get t hK2 with ⟨a, _, _⟩ | ⟨w, a, b, c⟩
                · exact a
                · exact absurd b (pick_key nd ht)
              rw [putK_new _ hn, pick_snoc ht, if_neg hz]
              exact kvF_tk (kvF_snoc hK2 ft) (tk_dk hk2)
        · rintro H4 ⟨sm4, k2, hk2, hK2⟩
          rw [List.length_map, List.take_length] at hK2
          have s5 := s3.trans (s4.trans sm4)
          have hx4 := s5 _ _ hx
          refine ⟨_, rfl, x, _, dx, _, rfl, hx4, T.cl_Row, T.na_Row__shares, by decide, ?_⟩
          have ne : D2 ≠ x := ne_of hk2 hx4 (by intro z; cases z)
          refine hQ _ (fun b o e nb => ?_) ⟨x, dx, D2, k2, rfl, upd_same, ?_, ?_, norm_nf ps⟩
          · rw [upd_ne nb]
            exact s5 _ _ e
          · rw [upd_ne ne]
            exact hk2
          · rw [norm_pick hperm hsort] at hK2
            exact kvF_tk hK2 (tk_ins hx4)
end
end L05
set_option maxRecDepth 100000
set_option maxHeartbeats 4000000
namespace L05
open PySem PySem.Spec PyProof.Rows L2 Q7
section
variable {P : Program} {w : World} {K : PySem.W.Frag} {mg : Str → Option Value} {base : Heap}
def spInitT (K : PySem.W.Frag) : Sp := fun vs H Q _ => ∃ x dx l xs ps, vs = [.ref x, .ref l] ∧ H x = some (.ins (RC K) dx []) ∧ SqT K H l xs ∧ PrsV K H xs ps ∧ Gw ps ∧
  ∀ H', (∀ b o, H b = some o → b ≠ x → H' b = some o) → RowAt K (RC K) H' (.ref x) (norm ps) → Q .non H'
theorem ok_Row___init___T (T : Txt K mg) : FnOk P w K mg base CX0 4 (He.ma K (He.ga K "Row") "__init__") T.fd_Row___init__ ["self", "pairs"] (spInitT K) := by
  refine T.F_Row___init__.ok sc_Row___init__ (fun vs H Q E h => ?_) (fun cdv A outer s H vs Q E hr h => ⟨_, PSs.nox
    (pss_cons (ps_if (PW.pt (pw_or (pt_not (pt_val (pe_callB call_isiT (by rfl) T.m_isinstance (by decide +kernel) (pa_cons (pv 1) (pa_cons (pe_tup (pa_cons (pe_bltn rfl T.m_list (v := .ty "list") (u := .type "list") (by decide +kernel) rfl) (pa_cons (pe_bltn rfl T.m_tuple (v := .ty "tuple") (u := .type "tuple") (by decide +kernel) rfl) pa_nil))) pa_nil))))) (pw_or1 (pt_not (pt_val (pe_callB (cr_all rfl) (by rfl) T.m_all (by decide +kernel) (pa_cons (pe_lc (own := [("pair", 5)]) rfl sc_Row___init__.nd (pi_tup (pv 1)) (blkOk_by (N := ["self", "pairs", "sums", "tick", "share", "pair"]) (sc := defScope s_Row___init__) (by decide +kernel)) (fun _ _ _ _ _ => (pg_name (i := 5) sc_Row___init__.nd rfl (.inl rfl) (hf := .inr rfl))) (fun _ _ _ _ _ => pts_nil) (fun _ _ _ _ _ => (pe_call (ok__is_pair T) (hr.mono (by decide)) (by rfl) T.g__is_pair T.F__is_pair.kp T.b__is_pair .nil pass0 (pa_cons (pv 5) pa_nil)))) pa_nil))))))) (pss_one ps_never) pss_nil)
      (pss_cons (ps_set (i := 2) sc_Row___init__.nd rfl (.inr rfl) pe_dnewK)
      (pss_cons (ps_for PassesOwn.never rfl (pi_tup (pv 1)) (pg_tup rfl (pgs_cons (pg_name (i := 3) sc_Row___init__.nd rfl (.inl rfl)) (pgs_cons (pg_name (i := 4) sc_Row___init__.nd rfl (.inl rfl)) pgs_nil))) (pss_one (ps_dput (hu_of hr) (pv 2) (pv 3) (pe_call (ok__sum T) (hr.mono (by decide)) (by rfl) T.g__sum T.F__sum.kp T.b__sum .nil pass0 (pa_cons (pe_dget2 (hu_of hr) (pv 2) (pv 3) (pe_glob (v := V.ref (He.ga K "ZERO")) rfl T.g_ZERO rfl) ⟨by rfl, by rfl, by rfl, by rfl⟩) (pa_cons (pv 4) pa_nil))) rfl)))
      (pss_one (ps_fld (pv 0) (pe_dc (own := [("tick", 3)]) rfl sc_Row___init__.nd (pi_list (pe_callB (call_sortedDIb rfl) (by rfl) T.m_sorted (by decide +kernel) (pa_cons (pv 2) pa_nil))) (blkOk_by (N := ["self", "pairs", "sums", "tick", "share", "pair"]) (sc := defScope s_Row___init__) (by decide +kernel)) (fun _ _ _ _ _ => (pg_name (i := 3) sc_Row___init__.nd rfl (.inl rfl) (hf := .inr rfl))) (fun _ _ _ _ _ => (pts_one (pt_cmpR (show OpR _ (compareOp .NotEq) (rNeD K) from (op_neD hr.units)) (pe_dget (hu_of hr) (pv 2) (pv 3) (fun _ _ => rfl)) (pe_glob (v := V.ref (He.ga K "ZERO")) rfl T.g_ZERO rfl) (nomark _)))) (fun _ _ _ _ _ => (pv 3)) (fun _ _ _ _ _ => (pe_dget (hu_of hr) (pv 2) (pv 3) (fun _ _ => rfl)))) rfl))))), ?_⟩)
  · obtain ⟨x, dx, l, xs, ps, rfl, _⟩ := h
    rfl
  · obtain ⟨x, dx, l, xs, ps, rfl, hx, S, hp, g, hQ⟩ := h
    have hlen : xs.length ≤ 2100 := by rw [pLen hp]; exact g.len
    have hlen2 : (sums ps).length ≤ 2100 := by have := sums_len ps; have := g.len; omega
    refine ⟨_, rfl, two_le, fun tp htp => ⟨_, tp, _, _, _, _, rfl, upd_same, .cons (.ty _) (.cons (.ty _) .nil), tyT (sqT_same S (same_new htp)), T.k_lt_t, _, rfl, iteF ?_⟩⟩
    have s1 := same_new (o := .tup [.ty "list", .ty "tuple"]) htp
    refine ⟨_, rfl, l, rfl, ⟨_, sqT_same S s1⟩, fun D hD => ?_⟩
    refine lc_tup (xs := xs) (fun i H' => Same (upd H tp (.tup [.ty "list", .ty "tuple"])) H' ∧ H' D = some (.lst (List.replicate i (.bl true)))) ⟨same_new hD, upd_same⟩ (fun i H' _ p => sqT_same S (s1.trans p.1)) ?_ ?_
    · rintro i v H' hv ⟨sm, hd⟩
      obtain ⟨p, hq, fx⟩ := pGet hp hv
      refine ⟨rfl, ?_⟩
      refine ⟨_, rfl, _, p, rfl, prV_tk fx (same_tk (s1.trans sm)), g.lo p (List.mem_of_getElem? hq), _, hd, ?_, same_mut sm hD, ?_⟩
      · rw [List.length_replicate]
        have := (List.getElem?_eq_some_iff.mp hv).1
        have := line22
        omega
      · rw [upd_same, rep_snoc]
    · rintro H2 ⟨sm2, hd2⟩
      refine ⟨D, List.replicate xs.length true, rfl, sqL_of (by rw [hd2, List.map_replicate]), _, rfl, ?_⟩
      rw [rep_all]
      refine iteF ?_
      have s2 := s1.trans sm2
      intro d hd
      refine ⟨_, rfl, l, rfl, ⟨_, sqT_same S (s2.trans (same_new hd))⟩, ?_⟩
      refine for_tup (xs := xs) (fun i σ H' => Same H2 H' ∧ ∃ ks o3 o4 o5, H' d = some (.dK ks) ∧ KvF K H' ks (sums (ps.take i)) ∧ σ = [some (.ref x), some (.ref l), some (.ref d), o3, o4, o5]) ⟨same_new hd, [], _, _, _, upd_same, .nil, rfl⟩ (fun i σ H' _ p => sqT_same S (s2.trans p.1)) ?_ ?_
      · rintro i v σ H' hv ⟨sm, ks, o3, o4, o5, hk, hK, rfl⟩
        obtain ⟨p, hq, ⟨pa, y, rfl, Sp, fy⟩⟩ := pGet hp hv
        have hH := s2.trans sm
        refine ⟨pa, _, rfl, sqT_same Sp hH, rfl, _, _, rfl, _, _, rfl, rfl, ?_⟩
        have hmem := List.mem_of_getElem? hq
        have hdg : DGet H' d (.int p.1) (valV ks (Sum.inl p.1)) := DGet.k (k := Sum.inl p.1) hk
        have hf : FrV K H' ((valV ks (Sum.inl p.1)).getD (.ref (He.ga K "ZERO"))) (look (sums (ps.take i)) p.1) := by
          rcases kvF_get p.1 hK with ⟨a, _, c⟩ | ⟨w, a, _, c⟩
          · rw [a, c]
            exact ⟨_, rfl, T.zero H'⟩
          · rw [a]
            exact c
        refine ⟨_, rfl, d, rfl, .inl ⟨ks, .inl hk⟩, _, rfl, _, hdg, _, rfl, _, _, _, _, rfl, hf, frV_same fy hH, g.look i p.1, g.mem p hmem, fun z H3 s3 r => ?_⟩
        refine ⟨_, rfl, _, rfl, d, _, rfl, DPut.k (k := Sum.inl p.1) (s3 _ _ hk) ?_, ?_⟩
        · have h1 := hK.length
          have h2 := sums_len (ps.take i)
          have h3 := line22
          have h4 := g.len
          rw [List.length_take] at h2
          omega
        · refine ⟨same_mut (sm.trans s3) hd, _, _, _, _, upd_same, ?_, rfl⟩
          rw [sums_take hq]
          exact kvF_tk (kvF_put (kvF_tk hK (same_tk s3)) (sums_nodup _) r) (tk_dk (s3 _ _ hk))
      · rintro σ H3 ⟨sm3, ks, o3, o4, o5, hk, hK, rfl⟩
        rw [pLen hp, List.take_length] at hK
        have s3 := s2.trans sm3
        refine ⟨_, rfl, d, ks, (sums ps).map (·.1), rfl, .inl hk, kvF_keys hK, ?_, fun ys sp hperm hsort hsp => ⟨sp, rfl, ⟨_, sqL_of upd_same⟩, fun D2 hD2 => ?_⟩⟩
        · rw [List.length_map]; omega
        have nd : ys.Nodup := hperm.nodup_iff.mpr (sums_nodup ps)
        have ylen : ys.length ≤ 2100 := by rw [hperm.length_eq, List.length_map]; exact hlen2
        have s4 := same_new (o := .lst (ys.map V.int)) hsp
        refine dc_list (xs := ys.map V.int) (fun i H' => Same (upd H3 sp (.lst (ys.map V.int))) H' ∧ ∃ k2, H' D2 = some (.dK k2) ∧ KvF K H' k2 (pick (sums ps) (ys.take i))) ⟨same_new hD2, [], upd_same, .nil⟩ (fun i H' _ p => sqL_of (p.1 _ _ upd_same)) ?_ ?_
        · rintro i v H' hv ⟨sm, k2, hk2, hK2⟩
          have hi : i < ys.length := by
            have := (List.getElem?_eq_some_iff.mp hv).1
            rwa [List.length_map] at this
          obtain ⟨t, ht, rfl⟩ : ∃ t, ys[i]? = some t ∧ v = .int t := by
            rw [List.getElem?_map] at hv
            obtain ⟨t, a, b⟩ := Option.map_eq_some_iff.mp hv
            exact ⟨t, a, b.symm⟩
          have hK' := kvF_tk hK (same_tk (s4.trans sm))
          have hk' := sm _ _ (s4 _ _ hk)
          have hg : DGet H' d (.int t) (valV ks (Sum.inl t)) := DGet.k (k := Sum.inl t) hk'
          obtain ⟨w, a, ft⟩ : ∃ w, valV ks (Sum.inl t) = some w ∧ FrV K H' w (look (sums ps) t) := by
            rcases kvF_get t hK' with ⟨a, b, c⟩ | ⟨w, a, b, c⟩
            · exact absurd (hperm.mem_iff.mp (List.mem_of_getElem? ht)) b
            · exact ⟨w, a, c⟩
          rw [a] at hg
          refine ⟨rfl, ?_⟩
          refine ⟨_, rfl, _, rfl, d, w, rfl, hg, _, _, frV_dp ft, frV_dp (q := 0) ⟨_, rfl, T.zero H'⟩, sh_fr _, sh_fr 0, _, rfl, ?_⟩
          rw [eqv_fr]
          by_cases hz : look (sums ps) t = 0
          · rw [decide_eq_true hz]
            refine iteF ?_
            exact ⟨sm, k2, hk2, by rw [pick_snoc ht, if_pos hz]; exact hK2⟩
          · rw [decide_eq_false hz]
            refine iteT ?_
            refine ⟨_, rfl, _, rfl, _, rfl, d, w, rfl, hg, k2, Sum.inl t, rfl, hk2, ?_, ?_⟩
            · have h1 := hK2.length
              have h2 : (pick (sums ps) (ys.take i)).length ≤ i := by
                unfold pick
                refine Nat.le_trans (List.length_filter_le _ _) ?_
                rw [List.length_map, List.length_take]
                omega
              have h3 := line22
              omega
            · refine ⟨same_mut sm hD2, _, upd_same, ?_⟩
              have hn : valV k2 (Sum.inl t) = none := by
                rcases kvF_get t hK2 with ⟨a, _, _⟩ | ⟨w, a, b, c⟩
                · exact a
                · exact absurd b (pick_key nd ht)
              rw [putK_new _ hn, pick_snoc ht, if_neg hz]
              exact kvF_tk (kvF_snoc hK2 ft) (tk_dk hk2)
        · rintro H4 ⟨sm4, k2, hk2, hK2⟩
          rw [List.length_map, List.take_length] at hK2
          have s5 := s3.trans (s4.trans sm4)
          have hx4 := s5 _ _ hx
          refine ⟨_, rfl, x, _, dx, _, rfl, hx4, T.cl_Row, T.na_Row__shares, by decide, ?_⟩
          have ne : D2 ≠ x := ne_of hk2 hx4 (by intro z; cases z)
          refine hQ _ (fun b o e nb => ?_) ⟨x, dx, D2, k2, rfl, upd_same, ?_, ?_, norm_nf ps⟩
          · rw [upd_ne nb]
            exact s5 _ _ e
          · rw [upd_ne ne]
            exact hk2
          · rw [norm_pick hperm hsort] at hK2
            exact kvF_tk hK2 (tk_ins hx4)
end
end L05
set_option maxRecDepth 100000
set_option maxHeartbeats 4000000
namespace L05
open PySem PySem.Spec PyProof.Rows L2 Q7
section
variable {P : Program} {w : World} {K : PySem.W.Frag} {mg : Str → Option Value} {base : Heap}
/-! ### rows: the methods -/
theorem un70 {k : Nat} {A : Around} (r : Room k A) : A.units + 70 < cLine := by have := r.un; omega
abbrev RA (K : PySem.W.Frag) (H : Hp) (v : V) (a : Rw) : Prop := RowAt K (RC K) H v a
theorem mk_row {H1 : Hp} {Q : VK} {E : XK} {l : Addr} {xs : List V} {ps : Rw} (S : SqL K H1 l xs) (hp : PrsV K H1 xs ps) (g : Gw ps) (hQ : ∀ v H', Same H1 H' → RA K H' v (norm ps) → Q v H') :
    ∀ x dx, H1 x = none → H1 dx = none → dx ≠ x → spInit K (.ref x :: ([.ref l] ++ [])) (upd (upd H1 dx (.own x)) x (.ins (RC K) dx [])) (fun v H2 => v = .non ∧ Q (.ref x) H2) E := by
  intro x dx hx hd ne
  have s : Same H1 (upd (upd H1 dx (.own x)) x (.ins (RC K) dx [])) := (same_new hd).trans (same_new (by rw [upd_ne ne.symm]; exact hx))
  refine ⟨x, dx, l, xs, ps, rfl, upd_same, sqL_same S s, prsV_tk hp (same_tk s), g, fun H' k r => ⟨rfl, hQ _ _ (Same.made hx hd k) r⟩⟩
theorem mk_rowT {H1 : Hp} {Q : VK} {E : XK} {l : Addr} {xs : List V} {ps : Rw} (S : SqT K H1 l xs) (hp : PrsV K H1 xs ps) (g : Gw ps) (hQ : ∀ v H', Same H1 H' → RA K H' v (norm ps) → Q v H') :
    ∀ x dx, H1 x = none → H1 dx = none → dx ≠ x → spInitT K (.ref x :: ([.ref l] ++ [])) (upd (upd H1 dx (.own x)) x (.ins (RC K) dx [])) (fun v H2 => v = .non ∧ Q (.ref x) H2) E := by
  intro x dx hx hd ne
  have s : Same H1 (upd (upd H1 dx (.own x)) x (.ins (RC K) dx [])) := (same_new hd).trans (same_new (by rw [upd_ne ne.symm]; exact hx))
  refine ⟨x, dx, l, xs, ps, rfl, upd_same, sqT_same S s, prsV_tk hp (same_tk s), g, fun H' k r => ⟨rfl, hQ _ _ (Same.made hx hd k) r⟩⟩
def spPairs (K : PySem.W.Frag) : Sp := fun vs H Q _ => ∃ v a, vs = [v] ∧ RA K H v a ∧ ∀ p xs H', Same H H' → H p = none → H' p = some (.lst xs) → PrsV K H' xs a → Q (.ref p) H'
theorem ok_Row_pairs (T : Txt K mg) : FnOk P w K mg base CX0 1 (He.ma K (He.ga K "Row") "pairs") T.fd_Row_pairs ["self"] (spPairs K) := by
  refine T.F_Row_pairs.ok sc_Row_pairs (fun vs H Q E h => ?_) (fun cdv A outer s H vs Q E hr h => ⟨_, PSs.nox
    (pss_one (ps_ret (LiI.pe_listItems rfl (pe_fld (pv 0) rfl) (by rfl) T.m_list (by decide +kernel)))), ?_⟩)
  · obtain ⟨v, a, rfl, _⟩ := h
    rfl
  · obtain ⟨v, a, rfl, ⟨x, dx, d, ks, rfl, hx, hd, hK, nf⟩, hQ⟩ := h
    exact ⟨_, rfl, _, _, _, _, _, rfl, hx, T.cl_Row, T.na_Row__shares, rfl, d, ks, rfl, hd, fun H' p ts sm np _ _ hp pr => hQ p _ H' sm np hp (kvF_items hK (same_tk sm) pr)⟩
def spLen (K : PySem.W.Frag) : Sp := fun vs H Q _ => ∃ v a, vs = [v] ∧ RA K H v a ∧ Q (.int a.length) H
def spHas (K : PySem.W.Frag) : Sp := fun vs H Q _ => ∃ v a n, vs = [v, .int n] ∧ RA K H v a ∧ 0 ≤ n ∧ Q (.bl (decide (n ∈ a.map (·.1)))) H
def spREq (K : PySem.W.Frag) : Sp := fun vs H Q _ => ∃ u v a b, vs = [u, v] ∧ RA K H u a ∧ RA K H v b ∧ Q (.bl (decide (a = b))) H
def spAt (K : PySem.W.Frag) : Sp := fun vs H Q _ => ∃ v a n, vs = [v, .int n] ∧ RA K H v a ∧ 0 ≤ n ∧ ∀ x, FrV K H x (look a n) → Q x H
theorem ok_Row_at (T : Txt K mg) : FnOk P w K mg base CX0 4 (He.ma K (He.ga K "Row") "at") T.fd_Row_at ["self", "tick"] (spAt K) := by
  refine T.F_Row_at.ok sc_Row_at (fun vs H Q E h => ?_) (fun cdv A outer s H vs Q E hr h => ⟨_, PSs.nox
    (pss_cons (ps_expr (pe_call (ok__check_tick T) (hr.mono (by decide)) (by rfl) T.g__check_tick T.F__check_tick.kp T.b__check_tick .nil pass0 (pa_cons (pv 1) pa_nil)))
      (pss_one (ps_ret (pe_dget2 (hu_of hr) (pe_fld (pv 0) rfl) (pv 1) (pe_glob (v := V.ref (He.ga K "ZERO")) rfl T.g_ZERO rfl) ⟨by rfl, by rfl, by rfl, by rfl⟩)))), ?_⟩)
  · obtain ⟨v, a, n, rfl, _⟩ := h
    rfl
  · obtain ⟨v, a, n, rfl, ⟨x, dx, d, ks, rfl, hx, hd, hK, nf⟩, h0, hQ⟩ := h
    refine ⟨_, rfl, _, rfl, h0, ?_⟩
    refine ⟨_, rfl, _, _, _, _, _, rfl, hx, T.cl_Row, T.na_Row__shares, rfl, d, rfl, .inl ⟨ks, .inl hd⟩, _, rfl, _, DGet.k (k := Sum.inl n) hd, hQ _ ?_⟩
    rcases kvF_get n hK with ⟨e, _, c⟩ | ⟨v, e, _, c⟩
    · rw [e, c]
      exact ⟨_, rfl, T.zero H⟩
    · rw [e]
      exact c
theorem prs_frs {H : Hp} {xs : List V} {a : Rw} (h : PrsV K H xs a) : True := trivial
def spTotal (K : PySem.W.Frag) : Sp := fun vs H Q _ => ∃ v a, vs = [v] ∧ RA K H v a ∧ Gw a ∧ ∀ x H', Same H H' → FrV K H' x (a.map (·.2)).sum → Q x H'
end
end L05
set_option maxRecDepth 100000
set_option maxHeartbeats 4000000
namespace L05
open PySem PySem.Spec PyProof.Rows L2 Q7
section
variable {P : Program} {w : World} {K : PySem.W.Frag} {mg : Str → Option Value} {base : Heap}
theorem filt_take {α : Type} {a : List α} {i : Nat} {p : α} (f : α → Bool) (h : a[i]? = some p) : (a.take (i + 1)).filter f = (a.take i).filter f ++ (if f p then [p] else []) := by
  rw [List.take_succ, h, List.filter_append]
  cases e : f p with
  | true => simp [e]
  | false => simp [e]
theorem filt_len {α : Type} (a : List α) (f : α → Bool) (i : Nat) : ((a.take i).filter f).length ≤ i := by
  refine Nat.le_trans (List.length_filter_le _ _) ?_
  rw [List.length_take]; omega
def spUpTo (K : PySem.W.Frag) : Sp := fun vs H Q _ => ∃ v a n, vs = [v, .int n] ∧ RA K H v a ∧ 0 ≤ n ∧ Gw a ∧ ∀ x H', Same H H' → FrV K H' x ((upTo n a).map (·.2)).sum → Q x H'
theorem ok_Row_up_to (T : Txt K mg) : FnOk P w K mg base CX0 4 (He.ma K (He.ga K "Row") "up_to") T.fd_Row_up_to ["self", "tick"] (spUpTo K) := by
  refine T.F_Row_up_to.ok sc_Row_up_to (fun vs H Q E h => ?_) (fun cdv A outer s H vs Q E hr h => ⟨_, PSs.nox
    (pss_cons (ps_expr (pe_call (ok__check_tick T) (hr.mono (by decide)) (by rfl) T.g__check_tick T.F__check_tick.kp T.b__check_tick .nil pass0 (pa_cons (pv 1) pa_nil)))
      (pss_one (ps_ret (pe_call (ok_sum_of T) (hr.mono (by decide)) (by rfl) T.g_sum_of T.F_sum_of.kp T.b_sum_of .nil pass0 (pa_cons (pe_lc (own := [("when", 2), ("share", 3)]) rfl sc_Row_up_to.nd (pi_list (pe_meth0 (pv 0) T.cl_Row T.me_Row_pairs (ok_Row_pairs T) (hr.mono (by decide)) T.b_Row_pairs .nil pass0)) (blkOk_by (N := ["self", "tick", "when", "share"]) (sc := defScope s_Row_up_to) (by decide +kernel)) (fun _ _ _ _ _ => (show PG _ _ (gTup K 2 (gCons (gName 2) (gCons (gName 3) gNil))) from pg_tup rfl (pgs_cons (pg_name (i := 2) sc_Row_up_to.nd rfl (.inl rfl) (hf := .inr rfl)) (pgs_cons (pg_name (i := 3) sc_Row_up_to.nd rfl (.inl rfl) (hf := .inr rfl)) pgs_nil)))) (fun _ _ _ _ _ => (pts_one (pt_cmpR op_le (pv 2) (pv 1) (nomark _)))) (fun _ _ _ _ _ => (pv 3))) pa_nil))))), ?_⟩)
  · obtain ⟨v, a, n, rfl, _⟩ := h
    rfl
  · obtain ⟨v, a, n, rfl, R, h0, g, hQ⟩ := h
    obtain ⟨x, dx, d, ks, rfl, hx, hd, hK, nf⟩ := id R
    refine ⟨_, rfl, _, rfl, h0, ?_⟩
    refine ⟨_, rfl, x, dx, _, rfl, hx, rfl, _, _, rfl, R, fun p xs H1 s1 np hp pr => ?_⟩
    refine ⟨p, rfl, ⟨_, sqL_of hp⟩, fun D hD => ?_⟩
    refine lc_list (xs := xs) (fun i H' => Same H1 H' ∧ ∃ ys, H' D = some (.lst ys) ∧ Paired (FrV K H') ys ((upTo n (a.take i)).map (·.2)) ∧ ys.length ≤ i) ⟨same_new hD, [], upd_same, .nil, Nat.le_refl _⟩ (fun i H' _ q => sqL_of (q.1 _ _ hp)) ?_ ?_
    · rintro i v H' hv ⟨sm, ys, hy, hP, hl⟩
      obtain ⟨q, hq, ⟨pa, y, rfl, Sp, fy⟩⟩ := pGet pr hv
      refine ⟨pa, _, rfl, sqT_same Sp sm, rfl, _, _, rfl, _, _, rfl, rfl, ?_⟩
      refine ⟨rfl, ?_⟩
      have h1 : i < a.length := (List.getElem?_eq_some_iff.mp hq).1
      refine ⟨_, rfl, _, rfl, _, _, rfl, rfl, _, rfl, ite2 (fun c => ?_) fun c => ?_⟩
      · refine ⟨_, rfl, ys, hy, by have := line22; have := g.len; omega, same_mut sm hD, _, upd_same, ?_, by rw [List.length_append, List.length_singleton]; omega⟩
        rw [show upTo n (a.take (i + 1)) = upTo n (a.take i) ++ [q] from (filt_take _ hq).trans (by rw [if_pos c]; rfl), List.map_append]
        exact pApp (pImp (fun a b f => frV_tk f (tk_lst hy)) hP) (.cons (frV_tk (frV_same fy sm) (tk_lst hy)) .nil)
      · refine ⟨sm, ys, hy, ?_, by omega⟩
        rw [show upTo n (a.take (i + 1)) = upTo n (a.take i) from (filt_take _ hq).trans (by rw [if_neg c, List.append_nil]; rfl)]
        exact hP
    · rintro H2 ⟨s2, ys, hy, hP, hl⟩
      rw [pLen pr, List.take_length] at hP
      have g2 : Gw (upTo n a) := g.sub List.filter_sublist
      refine ⟨D, ys, _, rfl, sqL_of hy, hP, fun i => g2.psum i, fun q hq => ?_, fun z H3 s3 f => hQ z H3 ((s1.trans s2).trans s3) f⟩
      obtain ⟨p, hp, rfl⟩ := List.mem_map.mp hq
      exact g2.mem p hp
def spMoved (K : PySem.W.Frag) : Sp := fun vs H Q _ => ∃ v a n, vs = [v, .int n] ∧ RA K H v a ∧ 0 ≤ n ∧ Gw a ∧ Gw (mv n a) ∧ ∀ x H', Same H H' → RA K H' x (norm (mv n a)) → Q x H'
theorem ok_Row_moved (T : Txt K mg) : FnOk P w K mg base CX0 6 (He.ma K (He.ga K "Row") "moved") T.fd_Row_moved ["self", "ticks"] (spMoved K) := by
  refine T.F_Row_moved.ok sc_Row_moved (fun vs H Q E h => ?_) (fun cdv A outer s H vs Q E hr h => ⟨_, PSs.nox
    (pss_cons (ps_expr (pe_call (ok__check_tick T) (hr.mono (by decide)) (by rfl) T.g__check_tick T.F__check_tick.kp T.b__check_tick .nil pass0 (pa_cons (pv 1) pa_nil)))
      (pss_one (ps_ret (pe_make T.mk_Row (ok_Row___init__ T) (hr.mono (by decide)) (by rfl) T.g_Row T.b_Row___init__ .nil pass0 (pa_cons (pe_lc (own := [("tick", 2), ("share", 3)]) rfl sc_Row_moved.nd (pi_list (pe_meth0 (pv 0) T.cl_Row T.me_Row_pairs (ok_Row_pairs T) (hr.mono (by decide)) T.b_Row_pairs .nil pass0)) (blkOk_by (N := ["self", "ticks", "tick", "share"]) (sc := defScope s_Row_moved) (by decide +kernel)) (fun _ _ _ _ _ => (show PG _ _ (gTup K 2 (gCons (gName 2) (gCons (gName 3) gNil))) from pg_tup rfl (pgs_cons (pg_name (i := 2) sc_Row_moved.nd rfl (.inl rfl) (hf := .inr rfl)) (pgs_cons (pg_name (i := 3) sc_Row_moved.nd rfl (.inl rfl) (hf := .inr rfl)) pgs_nil)))) (fun _ _ _ _ _ => pts_nil) (fun _ _ _ _ _ => (pe_tup (pa_cons (pe_op op_add (pv 2) (pv 1)) (pa_cons (pv 3) pa_nil))))) pa_nil))))), ?_⟩)
  · obtain ⟨v, a, n, rfl, _⟩ := h
    rfl
  · obtain ⟨v, a, n, rfl, R, h0, g, g2, hQ⟩ := h
    obtain ⟨x, dx, d, ks, rfl, hx, hd, hK, nf⟩ := id R
    refine ⟨_, rfl, _, rfl, h0, ?_⟩
    refine ⟨_, rfl, x, dx, _, rfl, hx, rfl, _, _, rfl, R, fun p xs H1 s1 np hp pr => ?_⟩
    refine ⟨p, rfl, ⟨_, sqL_of hp⟩, fun D hD => ?_⟩
    refine lc_list (xs := xs) (fun i H' => Same H1 H' ∧ ∃ ys, H' D = some (.lst ys) ∧ PrsV K H' ys (mv n (a.take i)) ∧ ys.length ≤ i) ⟨same_new hD, [], upd_same, .nil, Nat.le_refl _⟩ (fun i H' _ q => sqL_of (q.1 _ _ hp)) ?_ ?_
    · rintro i v H' hv ⟨sm, ys, hy, hP, hl⟩
      obtain ⟨q, hq, ⟨pa, y, rfl, Sp, fy⟩⟩ := pGet pr hv
      refine ⟨pa, _, rfl, sqT_same Sp sm, rfl, _, _, rfl, _, _, rfl, rfl, ?_⟩
      refine ⟨rfl, ?_⟩
      have h1 : i < a.length := (List.getElem?_eq_some_iff.mp hq).1
      refine ⟨_, rfl, _, rfl, _, _, rfl, rfl, _, rfl, two_le, fun t ht => ?_⟩
      have sn := same_new (o := .tup [.int (q.1 + n), y]) ht
      have hy2 := sn _ _ hy
      refine ⟨ys, hy2, by have := line22; have := g.len; omega, same_mut (sm.trans sn) hD, _, upd_same, ?_, by rw [List.length_append, List.length_singleton]; omega⟩
      rw [show mv n (a.take (i + 1)) = mv n (a.take i) ++ [(q.1 + n, q.2)] by unfold mv; rw [List.take_succ, hq, List.map_append]; rfl]
      exact pApp (prsV_tk hP ((same_tk sn).trans (tk_lst hy2))) (.cons ⟨t, y, rfl, sqT_tk (sqT_of upd_same) (tk_lst hy2), frV_tk (frV_same fy (sm.trans sn)) (tk_lst hy2)⟩ .nil)
    · rintro H2 ⟨s2, ys, hy, hP, hl⟩
      rw [pLen pr, List.take_length] at hP
      exact mk_row (sqL_of hy) hP g2 fun v H3 s3 r => hQ v H3 ((s1.trans s2).trans s3) r
def spCut (K : PySem.W.Frag) : Sp := fun vs H Q _ => ∃ v a n, vs = [v, .int n] ∧ RA K H v a ∧ 0 ≤ n ∧ Gw a ∧ ∀ x H', Same H H' → RA K H' x (norm (upTo n a)) → Q x H'
theorem ok_Row_cut (T : Txt K mg) : FnOk P w K mg base CX0 6 (He.ma K (He.ga K "Row") "cut") T.fd_Row_cut ["self", "tick"] (spCut K) := by
  refine T.F_Row_cut.ok sc_Row_cut (fun vs H Q E h => ?_) (fun cdv A outer s H vs Q E hr h => ⟨_, PSs.nox
    (pss_cons (ps_expr (pe_call (ok__check_tick T) (hr.mono (by decide)) (by rfl) T.g__check_tick T.F__check_tick.kp T.b__check_tick .nil pass0 (pa_cons (pv 1) pa_nil)))
      (pss_one (ps_ret (pe_make T.mk_Row (ok_Row___init__ T) (hr.mono (by decide)) (by rfl) T.g_Row T.b_Row___init__ .nil pass0 (pa_cons (pe_lc (own := [("pair", 2)]) rfl sc_Row_cut.nd (pi_list (pe_meth0 (pv 0) T.cl_Row T.me_Row_pairs (ok_Row_pairs T) (hr.mono (by decide)) T.b_Row_pairs .nil pass0)) (blkOk_by (N := ["self", "tick", "pair"]) (sc := defScope s_Row_cut) (by decide +kernel)) (fun _ _ _ _ _ => (pg_name (i := 2) sc_Row_cut.nd rfl (.inl rfl) (hf := .inr rfl))) (fun _ _ _ _ _ => (pts_one (pt_cmpR op_le (pe_ix (show IxR _ (rIxT K) from ix_tup) (pv 2) pe_int (fun _ _ => rfl)) (pv 1) (nomark _)))) (fun _ _ _ _ _ => (pv 2))) pa_nil))))), ?_⟩)
  · obtain ⟨v, a, n, rfl, _⟩ := h
    rfl
  · obtain ⟨v, a, n, rfl, R, h0, g, hQ⟩ := h
    obtain ⟨x, dx, d, ks, rfl, hx, hd, hK, nf⟩ := id R
    refine ⟨_, rfl, _, rfl, h0, ?_⟩
    refine ⟨_, rfl, x, dx, _, rfl, hx, rfl, _, _, rfl, R, fun p xs H1 s1 np hp pr => ?_⟩
    refine ⟨p, rfl, ⟨_, sqL_of hp⟩, fun D hD => ?_⟩
    refine lc_list (xs := xs) (fun i H' => Same H1 H' ∧ ∃ ys, H' D = some (.lst ys) ∧ PrsV K H' ys (upTo n (a.take i)) ∧ ys.length ≤ i) ⟨same_new hD, [], upd_same, .nil, Nat.le_refl _⟩ (fun i H' _ q => sqL_of (q.1 _ _ hp)) ?_ ?_
    · rintro i v H' hv ⟨sm, ys, hy, hP, hl⟩
      obtain ⟨q, hq, hpv⟩ := pGet pr hv
      obtain ⟨pa, y, rfl, Sp, fy⟩ := id hpv
      refine ⟨rfl, ?_⟩
      have h1 : i < a.length := (List.getElem?_eq_some_iff.mp hq).1
      refine ⟨_, rfl, pa, _, _, _, rfl, rfl, sqT_same Sp sm, rfl, _, rfl, _, _, rfl, rfl, _, rfl, ite2 (fun c => ?_) fun c => ?_⟩
      · refine ⟨_, rfl, ys, hy, by have := line22; have := g.len; omega, same_mut sm hD, _, upd_same, ?_, by rw [List.length_append, List.length_singleton]; omega⟩
        rw [show upTo n (a.take (i + 1)) = upTo n (a.take i) ++ [q] from (filt_take _ hq).trans (by rw [if_pos c]; rfl)]
        exact pApp (prsV_tk hP (tk_lst hy)) (.cons (prV_tk (prV_tk hpv (same_tk sm)) (tk_lst hy)) .nil)
      · refine ⟨sm, ys, hy, ?_, by omega⟩
        rw [show upTo n (a.take (i + 1)) = upTo n (a.take i) from (filt_take _ hq).trans (by rw [if_neg c, List.append_nil]; rfl)]
        exact hP
    · rintro H2 ⟨s2, ys, hy, hP, hl⟩
      rw [pLen pr, List.take_length] at hP
      exact mk_row (sqL_of hy) hP (g.sub List.filter_sublist) fun v H3 s3 r => hQ v H3 ((s1.trans s2).trans s3) r
def spChkR (K : PySem.W.Frag) : Sp := fun vs H Q _ => ∃ v a, vs = [v] ∧ RA K H v a ∧ Q .non H
theorem ok__check_row (T : Txt K mg) : FnOk P w K mg base CX0 1 (He.ga K "_check_row") T.fd__check_row ["value"] (spChkR K) := by
  refine T.F__check_row.ok sc__check_row (fun vs H Q E h => ?_) (fun cdv A outer s H vs Q E hr h => ⟨_, PSs.nox
    (pss_one (ps_if (pt_not (pt_val (pe_callB call_isi (by rfl) T.m_isinstance (by decide +kernel) (pa_cons (pv 0) (pa_cons (pe_glob (v := V.ref (He.ga K "Row")) rfl T.g_Row rfl) pa_nil))))) (pss_one ps_never) pss_nil)), ?_⟩)
  · obtain ⟨v, a, rfl, _⟩ := h
    rfl
  · obtain ⟨v, a, rfl, ⟨x, dx, d, ks, rfl, hx, hd, hK, nf⟩, hQ⟩ := h
    exact ⟨_, rfl, _, _, _, _, _, rfl, .own _, T.ins_Row.ty T.cl_Row hx, T.ins_Row.is, _, rfl, iteF hQ⟩
def spAdd (K : PySem.W.Frag) : Sp := fun vs H Q _ => ∃ u v a b, vs = [u, v] ∧ RA K H u a ∧ RA K H v b ∧ Gw (a ++ b) ∧ ∀ x H', Same H H' → RA K H' x (norm (a ++ b)) → Q x H'
theorem ok_Row___add__ (T : Txt K mg) : FnOk P w K mg base CX0 6 (He.ma K (He.ga K "Row") "__add__") T.fd_Row___add__ ["self", "other"] (spAdd K) := by
  refine T.F_Row___add__.ok sc_Row___add__ (fun vs H Q E h => ?_) (fun cdv A outer s H vs Q E hr h => ⟨_, PSs.nox
    (pss_cons (ps_expr (pe_call (ok__check_row T) (hr.mono (by decide)) (by rfl) T.g__check_row T.F__check_row.kp T.b__check_row .nil pass0 (pa_cons (pv 1) pa_nil)))
      (pss_one (ps_ret (pe_make T.mk_Row (ok_Row___init__ T) (hr.mono (by decide)) (by rfl) T.g_Row T.b_Row___init__ .nil pass0 (pa_cons (pe_op op_cat (pe_meth0 (pv 0) T.cl_Row T.me_Row_pairs (ok_Row_pairs T) (hr.mono (by decide)) T.b_Row_pairs .nil pass0) (pe_meth0 (pv 1) T.cl_Row T.me_Row_pairs (ok_Row_pairs T) (hr.mono (by decide)) T.b_Row_pairs .nil pass0)) pa_nil))))), ?_⟩)
  · obtain ⟨u, v, a, b, rfl, _⟩ := h
    rfl
  · obtain ⟨u, v, a, b, rfl, R1, R2, g, hQ⟩ := h
    obtain ⟨x, dx, d, ks, rfl, hx, hd, hK, nf⟩ := id R1
    obtain ⟨y, dy, e, ls, rfl, hy, he, hL, ng⟩ := id R2
    refine ⟨_, rfl, _, _, rfl, R2, ?_⟩
    refine ⟨_, rfl, x, dx, _, rfl, hx, rfl, _, _, rfl, R1, fun p xs H1 s1 np hp pr => ?_⟩
    refine ⟨_, rfl, y, dy, _, rfl, s1 _ _ hy, rfl, _, _, rfl, rowAt_same R2 s1, fun q ys H2 s2 nq hq qr => ?_⟩
    have hl : xs.length + ys.length ≤ sizeLine := by rw [pLen pr, pLen qr]; have := g.len; rw [List.length_append] at this; have := line22; omega
    refine ⟨p, q, xs, ys, rfl, rfl, s2 _ _ hp, hq, hl, fun z hz => ?_⟩
    have s3 := same_new (o := .lst (xs ++ ys)) hz
    exact mk_row (sqL_of upd_same) (pApp (prsV_tk pr (same_tk (s2.trans s3))) (prsV_tk qr (same_tk s3))) g fun v H3 s4 r => hQ v H3 (((s1.trans s2).trans s3).trans s4) r
end
end L05
set_option maxRecDepth 100000
set_option maxHeartbeats 4000000
namespace L05
open PySem PySem.Spec PyProof.Rows L2 Q7
section
variable {P : Program} {w : World} {K : PySem.W.Frag} {mg : Str → Option Value} {base : Heap}
/-! ### rows: the product -/
theorem prod_take {a b : Rw} {i : Nat} {p : Int × Rat} (h : a[i]? = some p) : prod (a.take (i + 1)) b = prod (a.take i) b ++ b.map fun q => (p.1 + q.1, p.2 * q.2) := by
  unfold prod
  rw [List.take_succ, h, List.flatMap_append]
  simp
theorem map_take' {b : Rw} {j : Nat} {q : Int × Rat} (f : Int × Rat → Int × Rat) (h : b[j]? = some q) : (b.take (j + 1)).map f = (b.take j).map f ++ [f q] := by
  rw [List.take_succ, h, List.map_append]
  rfl
theorem prod_len (a b : Rw) : (prod a b).length = a.length * b.length := by
  unfold prod
  rw [List.length_flatMap]
  simp [List.map_const']
def spMul (K : PySem.W.Frag) : Sp := fun vs H Q _ => ∃ u v a b, vs = [u, v] ∧ RA K H u a ∧ RA K H v b ∧ Gw a ∧ Gw b ∧ Gw (prod a b) ∧ ∀ x H', Same H H' → RA K H' x (norm (prod a b)) → Q x H'
theorem ok_Row___mul__ (T : Txt K mg) : FnOk P w K mg base CX0 6 (He.ma K (He.ga K "Row") "__mul__") T.fd_Row___mul__ ["self", "other"] (spMul K) := by
  refine T.F_Row___mul__.ok sc_Row___mul__ (fun vs H Q E h => ?_) (fun cdv A outer s H vs Q E hr h => ⟨_, PSs.nox
    (pss_cons (ps_expr (pe_call (ok__check_row T) (hr.mono (by decide)) (by rfl) T.g__check_row T.F__check_row.kp T.b__check_row .nil pass0 (pa_cons (pv 1) pa_nil)))
      (pss_cons (ps_set (i := 2) sc_Row___mul__.nd rfl (.inr rfl) (pe_meth0 (pv 1) T.cl_Row T.me_Row_pairs (ok_Row_pairs T) (hr.mono (by decide)) T.b_Row_pairs .nil pass0))
      (pss_one (ps_ret (pe_make T.mk_Row (ok_Row___init__ T) (hr.mono (by decide)) (by rfl) T.g_Row T.b_Row___init__ .nil pass0 (pa_cons (pe_lc2 (own := [("mine", 3), ("x", 4), ("their", 5), ("y", 6)]) (vs1 := [5, 6]) rfl sc_Row___mul__.nd (pi_list (pe_meth0 (pv 0) T.cl_Row T.me_Row_pairs (ok_Row_pairs T) (hr.mono (by decide)) T.b_Row_pairs .nil pass0)) (blkOk_by (N := ["self", "other", "theirs", "mine", "x", "their", "y"]) (sc := defScope s_Row___mul__) (by decide +kernel)) (by decide) (fun _ _ _ _ _ => (show PG _ _ (gTup K 2 (gCons (gName 3) (gCons (gName 4) gNil))) from pg_tup rfl (pgs_cons (pg_name (i := 3) sc_Row___mul__.nd rfl (.inl rfl) (hf := .inr rfl)) (pgs_cons (pg_name (i := 4) sc_Row___mul__.nd rfl (.inl rfl) (hf := .inr rfl)) pgs_nil)))) (fun _ _ _ _ _ => pts_nil) (fun _ _ _ _ _ => (show PI _ _ _ (iList K (tVar 2)) from (pi_list (pv 2)))) (fun _ _ _ _ _ => (show PG _ _ (gTup K 2 (gCons (gName 5) (gCons (gName 6) gNil))) from pg_tup rfl (pgs_cons (pg_name (i := 5) sc_Row___mul__.nd rfl (.inl rfl) (hf := .inr rfl)) (pgs_cons (pg_name (i := 6) sc_Row___mul__.nd rfl (.inl rfl) (hf := .inr rfl)) pgs_nil)))) (fun _ _ _ _ _ => pts_nil) (fun _ _ _ _ _ => (pe_tup (pa_cons (pe_op op_add (pv 3) (pv 5)) (pa_cons (pe_call (ok__product T) (hr.mono (by decide)) (by rfl) T.g__product T.F__product.kp T.b__product .nil pass0 (pa_cons (pv 4) (pa_cons (pv 6) pa_nil))) pa_nil))))) pa_nil)))))), ?_⟩)
  · obtain ⟨u, v, a, b, rfl, _⟩ := h
    rfl
  · obtain ⟨u, v, a, b, rfl, R1, R2, g1, g2, g, hQ⟩ := h
    obtain ⟨x, dx, d, ks, rfl, hx, hd, hK, nf⟩ := id R1
    obtain ⟨y, dy, e, ls, rfl, hy, he, hL, ng⟩ := id R2
    refine ⟨_, rfl, _, _, rfl, R2, ?_⟩
    refine ⟨_, rfl, y, dy, _, rfl, hy, rfl, _, _, rfl, R2, fun q ys H1 s1 nq hq qr => ?_⟩
    refine ⟨_, rfl, x, dx, _, rfl, s1 _ _ hx, rfl, _, _, rfl, rowAt_same R1 s1, fun p xs H2 s2 np hp pr => ?_⟩
    have hq2 := s2 _ _ hq
    have qr2 := prsV_tk qr (same_tk s2)
    refine ⟨p, rfl, ⟨_, sqL_of hp⟩, fun D hD => ?_⟩
    refine turn_list (xs := xs) (fun σ2 H3 Nx => _) (fun i H' => Same H2 H' ∧ ∃ zs, H' D = some (.lst zs) ∧ PrsV K H' zs (prod (a.take i) b)) ⟨same_new hD, [], upd_same, .nil⟩ (fun i H' _ q => sqL_of (q.1 _ _ hp)) ?_ ?_
    · rintro i v H' hv ⟨sm, zs, hz, hP⟩
      obtain ⟨t, ht, ⟨pa, w1, rfl, Sp, fy⟩⟩ := pGet pr hv
      refine ⟨pa, _, rfl, sqT_same Sp sm, rfl, _, _, rfl, _, _, rfl, rfl, ?_⟩
      refine ⟨rfl, ?_⟩
      refine ⟨_, rfl, q, rfl, ⟨_, sqL_of (sm _ _ hq2)⟩, ?_⟩
      refine turn_list (xs := ys) (fun σ2 H3 Nx => _) (fun j H' => Same H2 H' ∧ ∃ zs, H' D = some (.lst zs) ∧ PrsV K H' zs (prod (a.take i) b ++ (b.take j).map fun q => (t.1 + q.1, t.2 * q.2))) ⟨sm, zs, hz, by simpa using hP⟩ (fun j H' _ r => sqL_of (r.1 _ _ hq2)) ?_ ?_
      · rintro j v H'' hv2 ⟨sm2, zs2, hz2, hP2⟩
        obtain ⟨r, hr2, ⟨pb, w2, rfl, Sp2, fy2⟩⟩ := pGet qr2 hv2
        refine ⟨pb, _, rfl, sqT_same Sp2 sm2, rfl, _, _, rfl, _, _, rfl, rfl, ?_⟩
        refine ⟨rfl, ?_⟩
        refine ⟨_, rfl, _, rfl, _, _, rfl, rfl, _, rfl, _, rfl, _, _, _, _, rfl, frV_same fy sm2, frV_same fy2 sm2, g1.mem t (List.mem_of_getElem? ht), g2.mem r (List.mem_of_getElem? hr2), fun z H3 s3 fz => ?_⟩
        refine ⟨two_le, fun tp htp => ?_⟩
        have s4 := s3.trans (same_new (o := .tup [.int (t.1 + r.1), z]) htp)
        have hz3 := s4 _ _ hz2
        have i1 : i < a.length := (List.getElem?_eq_some_iff.mp ht).1
        have j1 : j < b.length := (List.getElem?_eq_some_iff.mp hr2).1
        have hlen : zs2.length < sizeLine := by
          rw [pLen hP2, List.length_append, prod_len, List.length_map, List.length_take, List.length_take]
          have := g1.len; have := g2.len
          have h1 : min i a.length * b.length ≤ 2100 * 2100 := Nat.mul_le_mul (by omega) (by omega)
          have : 2100 * 2100 + 2100 < sizeLine := by decide
          omega
        refine ⟨zs2, hz3, hlen, same_mut (sm2.trans s4) hD, _, upd_same, ?_⟩
        rw [map_take' _ hr2, ← List.append_assoc]
        exact pApp (prsV_tk hP2 ((same_tk s4).trans (tk_lst hz3))) (.cons ⟨tp, z, rfl, sqT_tk (sqT_of upd_same) (tk_lst hz3), frV_tk (frV_same fz (same_new htp)) (tk_lst hz3)⟩ .nil)
      · rintro H'' ⟨sm2, zs2, hz2, hP2⟩
        rw [pLen qr2, List.take_length] at hP2
        exact ⟨sm2, zs2, hz2, by rw [prod_take ht]; exact hP2⟩
    · rintro H3 ⟨s3, zs, hz, hP⟩
      rw [pLen pr, List.take_length] at hP
      exact mk_row (sqL_of hz) hP g fun v H4 s4 r => hQ v H4 (((s1.trans s2).trans s3).trans s4) r
end
end L05
set_option maxRecDepth 100000
set_option maxHeartbeats 4000000
namespace L05
open PySem PySem.Spec PyProof.Rows L2 Q7
section
variable {P : Program} {w : World} {K : PySem.W.Frag} {mg : Str → Option Value} {base : Heap}
/-! ### one row right -/
section
variable {H : Hp} {v x y : V} {a b : Rw} {Q : VK} {E : XK}
theorem rowm {m : Str} {X : Prop} (R : RA K H v a) (hm : ∀ d, List.lookup m [("_shares", V.ref d)] = none) (h : X) : ∃ a dx fs, v = .ref a ∧ H a = some (.ins (RC K) dx fs) ∧ fs.lookup m = none ∧ X := by
  obtain ⟨x, dx, d, ks, rfl, hx, _⟩ := R
  exact ⟨x, dx, _, rfl, hx, hm d, h⟩
theorem row2 {sp : Sp} (R1 : RA K H x a) (R2 : RA K H y b) (h : sp [x, y] H Q E) : rOwn2 (RC K) sp E x y H Q := by
  obtain ⟨p, dx, d, ks, rfl, hx, _⟩ := R1
  obtain ⟨q, dy, e, ls, rfl, hy, _⟩ := R2
  exact ⟨p, dx, _, q, dy, _, rfl, rfl, hx, hy, h⟩
theorem rowNe (R1 : RA K H x a) (R2 : RA K H y b) (e : a = b) (h : Q (.bl false) H) : rOwnNe (RC K) (spREq K) E x y H Q := by
  obtain ⟨p, dx, d, ks, rfl, hx, _⟩ := id R1
  obtain ⟨q, dy, e', ls, rfl, hy, _⟩ := id R2
  exact ⟨p, dx, _, q, dy, _, rfl, rfl, hx, hy, _, _, a, b, rfl, R1, R2, _, rfl, by rw [decide_eq_true e]; exact h⟩
theorem rowEq (R1 : RA K H x a) (R2 : RA K H y b) (e : a = b) (h : Q (.bl true) H) : rOwn2 (RC K) (spREq K) E x y H Q :=
  row2 R1 R2 ⟨_, _, a, b, rfl, R1, R2, by rw [decide_eq_true e]; exact h⟩
theorem rowIn {n : Int} (R : RA K H y a) (h0 : 0 ≤ n) (h : Q (.bl (decide (n ∈ a.map (·.1)))) H) : rOwnIn (RC K) (spHas K) E (.int n) y H Q := by
  obtain ⟨q, dy, e', ls, rfl, hy, _⟩ := id R
  exact ⟨q, dy, _, rfl, hy, _, a, n, rfl, R, h0, _, rfl, h⟩
theorem rowLen (R : RA K H y a) (hl : a.length < 2 ^ 62) (h : Q (.int a.length) H) : rOwnLen (RC K) (spLen K) E [y] H Q := by
  obtain ⟨q, dy, e', ls, rfl, hy, _⟩ := id R
  exact ⟨q, dy, _, rfl, hy, _, a, rfl, R, _, rfl, by omega, by omega, h⟩
theorem insAt {x : Addr} (R : RA K H (.ref x) a) : ∃ dx d, H x = some (.ins (RC K) dx [("_shares", .ref d)]) := by
  obtain ⟨q, dy, e', ls, e, hy, _⟩ := R
  cases e
  exact ⟨dy, e', hy⟩
theorem ne_prs {p q : Addr} {xs ys : List V} (h1 : H p = some (.lst xs)) (P1 : PrsV K H xs a) (h2 : H q = some (.lst ys)) (P2 : PrsV K H ys b) (e : a = b) (h : Q (.bl false) H) : rNeD K (.ref p) (.ref q) H Q :=
  ⟨_, _, .lst (sqL_of h1) (prsV_dp P1), .lst (sqL_of h2) (prsV_dp P2), sh_prs _, sh_prs _, by rw [eqv_lists, decide_eq_true e]; exact h⟩
theorem ne_int {i j : Int} (e : i = j) (h : Q (.bl false) H) : rNe (.int i) (.int j) H Q := ⟨rfl, by rw [decide_eq_true (by rw [e])]; exact h⟩
end
theorem mk_row1 {H1 : Hp} {E : XK} {Rq : Hp → Prop} {l x dx : Addr} {xs : List V} {ps : Rw} (S : SqL K H1 l xs) (hp : PrsV K H1 xs ps) (g : Gw ps) (hx : H1 x = none) (hd : H1 dx = none) (ne : dx ≠ x) (hQ : ∀ H', Same H1 H' → RA K H' (.ref x) (norm ps) → Rq H') :
    spInit K [.ref x, .ref l] (upd (upd H1 dx (.own x)) x (.ins (RC K) dx [])) (fun v H2 => v = .non ∧ Rq H2) E := by
  have s : Same H1 (upd (upd H1 dx (.own x)) x (.ins (RC K) dx [])) := (same_new hd).trans (same_new (by rw [upd_ne ne.symm]; exact hx))
  exact ⟨x, dx, l, xs, ps, rfl, upd_same, sqL_same S s, prsV_tk hp (same_tk s), g, fun H' k r => ⟨rfl, hQ _ (Same.made hx hd k) r⟩⟩
theorem mk_row1T {H1 : Hp} {E : XK} {Rq : Hp → Prop} {l x dx : Addr} {xs : List V} {ps : Rw} (S : SqT K H1 l xs) (hp : PrsV K H1 xs ps) (g : Gw ps) (hx : H1 x = none) (hd : H1 dx = none) (ne : dx ≠ x) (hQ : ∀ H', Same H1 H' → RA K H' (.ref x) (norm ps) → Rq H') :
    spInitT K [.ref x, .ref l] (upd (upd H1 dx (.own x)) x (.ins (RC K) dx [])) (fun v H2 => v = .non ∧ Rq H2) E := by
  have s : Same H1 (upd (upd H1 dx (.own x)) x (.ins (RC K) dx [])) := (same_new hd).trans (same_new (by rw [upd_ne ne.symm]; exact hx))
  exact ⟨x, dx, l, xs, ps, rfl, upd_same, sqT_same S s, prsV_tk hp (same_tk s), g, fun H' k r => ⟨rfl, hQ _ (Same.made hx hd k) r⟩⟩
theorem Gw.rev {ps : Rw} (h : Gw ps) : Gw ps.reverse := by
  obtain ⟨D, M, T, g, r⟩ := h
  exact ⟨D, M, T, ⟨fun p hp => g.nd p (List.mem_reverse.mp hp), fun p hp => g.lo p (List.mem_reverse.mp hp), fun p hp => g.hi p (List.mem_reverse.mp hp), by rw [List.length_reverse]; exact g.len⟩, r⟩
end
end L05
set_option maxRecDepth 100000
set_option maxHeartbeats 4000000
namespace L05
open PySem PySem.Spec PyProof.Rows L2 Q7
section
variable {P : Program} {w : World} {K : PySem.W.Frag} {mg : Str → Option Value} {base : Heap}
/-! ### the law's numbers -/
def CPowN (i j : Int) : Prop := 0 ≤ j ∧ (Builtin.Int.intBits i : Int) * j ≤ 2 ^ 27
theorem op_powN {X : Cx} : OpR X (binaryOp .Pow) (rI CPowN fun i j => .int (i ^ j.toNat)) := opI fun i j _ _ _ _ _ hc q => PyProof.Rows.pow_int hc.1 hc.2 q
theorem bits_le {x : Int} {n : Nat} (h : x.natAbs < 2 ^ n) (hn : 0 < n) : Builtin.Int.intBits x ≤ n := by
  have l := PySem.Flt.log2_lt_of hn h
  unfold Builtin.Int.intBits
  split <;> omega
theorem pow3 {x : Int} (h : x.natAbs < 2 ^ 200) : CPowN x 3 := ⟨by decide, by have := bits_le h (by decide); omega⟩
theorem abs_add_lt {a b : Int} {n : Nat} (ha : a.natAbs < 2 ^ n) (hb : b.natAbs < 2 ^ n) : (a + b).natAbs < 2 ^ (n + 1) := by
  rw [Nat.pow_succ]
  omega
def SrcAt (H : Hp) (b : Addr) (s0 s1 s2 : Int) : Prop := H b = some (.lst [.int s0, .int s1, .int s2])
theorem emod_abs {x m : Int} {n : Nat} (h0 : 0 < m) (h : m.natAbs ≤ 2 ^ n) : (x % m).natAbs < 2 ^ n := by
  have h1 := Int.emod_nonneg x (show m ≠ 0 by omega)
  have h2 := Int.emod_lt_of_pos x h0
  omega
theorem three_le : 3 ≤ sizeLine := by decide
def spSource : Sp := fun vs H Q _ => ∃ c k : Int, vs = [.int c, .int k] ∧ 0 ≤ k ∧ k < 2 ^ 20 ∧ ∀ b s0 s1, H b = none → s1.natAbs < 2 ^ 150 → Q (.ref b) (upd H b (.lst [.int s0, .int s1, .int 0]))
theorem big1 : (0 : Int) < 22771796869795548688929189905227752639 ∧ (22771796869795548688929189905227752639 : Int).natAbs ≤ 2 ^ 125 := by decide
theorem big2 : (0 : Int) < 784539008398161451444762085142415230777 ∧ (784539008398161451444762085142415230777 : Int).natAbs ≤ 2 ^ 130 := by decide
theorem big3 : (0 : Int) < 45732837066512861319190450288120557209 ∧ (45732837066512861319190450288120557209 : Int).natAbs ≤ 2 ^ 130 := by decide
theorem ok__law_source (T : Txt K mg) : FnOk P w K mg base CX0 1 (He.ga K "_law_source") T.fd__law_source ["cell", "k"] spSource := by
  refine T.F__law_source.ok sc__law_source (fun vs H Q E h => ?_) (fun cdv A outer s H vs Q E hr h => ⟨_, PSs.nox
    (pss_one (ps_ret (pe_lst (pa_cons (pe_callB (call_max2 rfl) (by rfl) T.m_max (by decide +kernel) (pa_cons pe_int (pa_cons (pe_op op_sub (pv 0) (pe_op op_pow pe_int pe_int)) pa_nil))) (pa_cons (pe_op op_add (pe_op op_mulW (pe_op op_mod (pe_callTy call_int1 (by rfl) T.m_int (by decide +kernel) (pa_cons (pv 0) pa_nil)) pe_int) pe_int) (pv 1)) (pa_cons pe_int pa_nil)))))), ?_⟩)
  · obtain ⟨c, k, rfl, _⟩ := h
    rfl
  · obtain ⟨c, k, rfl, h0, h1, hQ⟩ := h
    refine ⟨_, rfl, _, _, rfl, rfl, ⟨by decide, by decide, by decide⟩, _, _, rfl, rfl, _, _, rfl, ?_⟩
    refine ⟨_, rfl, .inl ⟨_, rfl, _, _, rfl, rfl, big1.1, _, _, rfl, rfl, cmul_of (a := 125) (b := 10) (emod_abs big1.1 big1.2) (by decide) (by decide), _, rfl, _, _, rfl, rfl, three_le, fun l hl => ?_⟩⟩
    refine hQ l _ _ hl ?_
    refine Nat.lt_of_lt_of_le (abs_add_lt (n := 135) ?_ ?_) (pow_le' (by decide))
    · exact abs_mul_lt (n := 125) (m := 10) (emod_abs big1.1 big1.2) (by decide)
    · exact Nat.lt_of_lt_of_le (show k.natAbs < 2 ^ 20 by omega) (pow_le' (by decide))
theorem upd_upd {H : Hp} {b : Addr} {o p : HO} : upd (upd H b o) b p = upd H b p := by
  funext a
  by_cases h : a = b
  · subst h; rw [upd_same, upd_same]
  · rw [upd_ne h, upd_ne h, upd_ne h]
def spDraw : Sp := fun vs H Q _ => ∃ b s0 s1 s2 m, vs = [.ref b, .int m] ∧ SrcAt H b s0 s1 s2 ∧ 0 ≤ s2 ∧ s2 < 2 ^ 40 ∧ s1.natAbs < 2 ^ 150 ∧ 0 < m ∧ m.natAbs < 2 ^ 220 ∧
  ∀ r s0' s2' : Int, 0 ≤ r → r < m → s2 ≤ s2' → s2' ≤ s2 + 1 → Q (.int r) (upd H b (.lst [.int s0', .int s1, .int s2']))
theorem ok__law_draw (T : Txt K mg) : FnOk P w K mg base CX0 1 (He.ga K "_law_draw") T.fd__law_draw ["source", "wide"] spDraw := by
  refine T.F__law_draw.ok sc__law_draw (fun vs H Q E h => ?_) (fun cdv A outer s H vs Q E hr h => ⟨_, PSs.nox
    (pss_cons (ps_if (pt_cmpR op_gt (pe_ix ix_list (pv 0) pe_int (fun _ _ => rfl)) pe_int (nomark _)) (pss_cons (ps_set (i := 2) sc__law_draw.nd rfl (.inl rfl) (pe_op op_mod (pe_callTy call_int1 (by rfl) T.m_int (by decide +kernel) (pa_cons (pe_ix ix_list (pv 0) pe_int (fun _ _ => rfl)) pa_nil)) (pv 1)))
      (pss_cons (ps_asg (pe_op op_fdivA (pe_ix ix_list (pv 0) pe_int (fun _ _ => rfl)) (pv 1)) (pg_sub (pv 0) pe_int set_list))
      (pss_one (ps_ret (pv 2))))) pss_nil)
      (pss_cons (ps_asg (pe_op op_add (pe_ix ix_list (pv 0) pe_int (fun _ _ => rfl)) pe_int) (pg_sub (pv 0) pe_int set_list))
      (pss_cons (ps_set (i := 3) sc__law_draw.nd rfl (.inl rfl) (pe_op op_add (pe_ix ix_list (pv 0) pe_int (fun _ _ => rfl)) (pe_op op_mulW pe_int (pe_ix ix_list (pv 0) pe_int (fun _ _ => rfl)))))
      (pss_cons (ps_set (i := 4) sc__law_draw.nd rfl (.inl rfl) (pe_op op_mod (pe_callTy call_int1 (by rfl) T.m_int (by decide +kernel) (pa_cons (pe_op op_powN (pv 3) pe_int) pa_nil)) pe_int))
      (pss_cons (ps_set (i := 3) sc__law_draw.nd rfl (.inl rfl) (pe_op op_add (pv 4) (pe_op op_mulW pe_int (pe_ix ix_list (pv 0) pe_int (fun _ _ => rfl)))))
      (pss_cons (ps_set (i := 4) sc__law_draw.nd rfl (.inl rfl) (pe_op op_mod (pe_callTy call_int1 (by rfl) T.m_int (by decide +kernel) (pa_cons (pe_op op_powN (pv 3) pe_int) pa_nil)) pe_int))
      (pss_one (ps_ret (pe_op op_mod (pe_callTy call_int1 (by rfl) T.m_int (by decide +kernel) (pa_cons (pe_op op_fdivA (pv 4) pe_int) pa_nil)) (pv 1)))))))))), ?_⟩)
  · obtain ⟨b, s0, s1, s2, m, rfl, _⟩ := h
    rfl
  · obtain ⟨b, s0, s1, s2, m, rfl, hb, d0, d1, e1, m0, m1, hQ⟩ := h
    have hB : ∀ {x y z : Int}, upd H b (.lst [.int x, .int y, .int z]) b = some (.lst [.int x, .int y, .int z]) := upd_same
    have hc : ∀ x, CDivA x m := fun x => cdiv_of (b := 220) (by omega) m1 (by decide) (by decide)
    have hb' : H b = some (.lst [.int s0, .int s1, .int s2]) := hb
    have e0 : ∀ {a : Int}, 0 ≤ a % m := Int.emod_nonneg _ (by omega)
    refine ⟨_, rfl, _, _, _, _, rfl, rfl, sqL_of hb', rfl, _, _, rfl, rfl, _, rfl, ite2 (fun _ => ?_) fun _ => ?_⟩
    · refine ⟨_, rfl, _, _, _, _, rfl, rfl, sqL_of hb', rfl, .inl ⟨_, rfl, _, rfl, _, _, rfl, rfl, m0, ?_⟩⟩
      refine ⟨_, rfl, _, _, _, _, rfl, rfl, sqL_of hb', rfl, _, rfl, _, _, rfl, rfl, hc _, _, rfl, _, _, _, _, rfl, rfl, hb', rfl, _, rfl, ?_⟩
      exact hQ _ _ _ e0 (Int.emod_lt_of_pos _ m0) (Int.le_refl _) (by omega)
    · refine ⟨_, rfl, _, _, _, _, rfl, rfl, sqL_of hb', rfl, _, _, rfl, rfl, _, rfl, _, _, _, _, rfl, rfl, hb', rfl, ?_⟩
      have k1 : CMulW 356851 (s2 + 1) := cmul_of (a := 19) (b := 41) (by decide) (by omega) (by decide)
      have k2 : CMulW 7891 (s2 + 1) := cmul_of (a := 19) (b := 41) (by decide) (by omega) (by decide)
      have l1 : (356851 * (s2 + 1)).natAbs < 2 ^ 150 := Nat.lt_of_lt_of_le (abs_mul_lt (n := 19) (m := 41) (by decide) (by omega)) (pow_le' (by decide))
      have l2 : (7891 * (s2 + 1)).natAbs < 2 ^ 150 := Nat.lt_of_lt_of_le (abs_mul_lt (n := 19) (m := 41) (by decide) (by omega)) (pow_le' (by decide))
      refine ⟨_, rfl, _, _, _, _, rfl, rfl, sqL_of hB, rfl, _, rfl, _, _, _, _, rfl, rfl, sqL_of hB, rfl, _, _, rfl, rfl, k1, _, _, rfl, rfl, ?_⟩
      refine ⟨_, rfl, _, _, rfl, rfl, pow3 (Nat.lt_of_lt_of_le (abs_add_lt e1 l1) (pow_le' (by decide))), .inl ⟨_, rfl, _, _, rfl, rfl, big2.1, ?_⟩⟩
      refine ⟨_, rfl, _, rfl, _, _, _, _, rfl, rfl, sqL_of hB, rfl, _, _, rfl, rfl, k2, _, _, rfl, rfl, ?_⟩
      refine ⟨_, rfl, _, _, rfl, rfl, pow3 (Nat.lt_of_lt_of_le (abs_add_lt (n := 150) (Nat.lt_of_lt_of_le (emod_abs big2.1 big2.2) (pow_le' (by decide))) l2) (pow_le' (by decide))), .inl ⟨_, rfl, _, _, rfl, rfl, big3.1, ?_⟩⟩
      refine ⟨_, rfl, _, _, rfl, rfl, ⟨by decide, by decide⟩, .inl ⟨_, rfl, _, rfl, _, _, rfl, rfl, m0, ?_⟩⟩
      exact hQ _ _ _ e0 (Int.emod_lt_of_pos _ m0) (by omega) (Int.le_refl _)
theorem gcd_step (x : Int) {n : Nat} (hn : 0 < n) : Nat.gcd n (x % n).toNat = Nat.gcd x.natAbs n := by
  have h0 := Int.emod_nonneg x (show (n : Int) ≠ 0 by omega)
  have e : x % n + n * (x / n) = x := Int.emod_add_mul_ediv x n
  refine Nat.dvd_antisymm (Nat.dvd_gcd ?_ (Nat.gcd_dvd_left _ _)) (Nat.dvd_gcd (Nat.gcd_dvd_right _ _) ?_)
  · have h1 : ((Nat.gcd n (x % n).toNat : Nat) : Int) ∣ (n : Int) := Int.natCast_dvd_natCast.mpr (Nat.gcd_dvd_left _ _)
    have h2 : ((Nat.gcd n (x % n).toNat : Nat) : Int) ∣ x % n := by
      have := Int.natCast_dvd_natCast.mpr (Nat.gcd_dvd_right n (x % n).toNat)
      rwa [Int.toNat_of_nonneg h0] at this
    have h3 : ((Nat.gcd n (x % n).toNat : Nat) : Int) ∣ x := by
      have := Int.dvd_add h2 (Int.dvd_mul_of_dvd_left (c := x / n) h1)
      rwa [e] at this
    exact Int.ofNat_dvd_left.mp h3
  · have h1 : ((Nat.gcd x.natAbs n : Nat) : Int) ∣ (n : Int) := Int.natCast_dvd_natCast.mpr (Nat.gcd_dvd_right _ _)
    have h2 : ((Nat.gcd x.natAbs n : Nat) : Int) ∣ x := Int.ofNat_dvd_left.mpr (Nat.gcd_dvd_left _ _)
    have h3 : ((Nat.gcd x.natAbs n : Nat) : Int) ∣ x % n := by
      rw [show x % n = x - n * (x / n) by omega]
      exact Int.dvd_sub h2 (Int.dvd_mul_of_dvd_left h1)
    have := Int.ofNat_dvd_left.mp h3
    rwa [show (x % n).natAbs = (x % n).toNat by omega] at this
def spDiv : Sp := fun vs H Q _ => ∃ a b : Int, vs = [.int a, .int b] ∧ 0 ≤ b ∧ Q (.int ((Nat.gcd a.natAbs b.natAbs : Nat) : Int)) H
theorem ok__law_divisor (T : Txt K mg) : FnOk P w K mg base CX0 1 (He.ga K "_law_divisor") T.fd__law_divisor ["one", "other"] spDiv := by
  refine T.F__law_divisor.ok sc__law_divisor (fun vs H Q E h => ?_) (fun cdv A outer s H vs Q E hr h => ⟨_, PSs.nox
    (pss_cons (ps_while PassesOwn.never (pt_cmpR op_ne (pv 1) pe_int (nomark _)) (pss_one (ps_par (i := 0) (j := 1) rfl sc__law_divisor.nd rfl rfl (by decide) rfl rfl (pa_cons (pv 1) (pa_cons (pe_op op_mod (pe_callTy call_int1 (by rfl) T.m_int (by decide +kernel) (pa_cons (pv 0) pa_nil)) (pv 1)) pa_nil)) (by rfl))))
      (pss_one (ps_ret (pe_callB call_abs (by rfl) T.m_abs (by decide +kernel) (pa_cons (pv 0) pa_nil))))), ?_⟩)
  · obtain ⟨a, b, rfl, _⟩ := h
    rfl
  · obtain ⟨a, b, rfl, h0, hQ⟩ := h
    refine while_by (fun σ H' => H' = H ∧ ∃ (x : Int) (n : Nat), σ = [some (.int x), some (.int n)] ∧ Nat.gcd x.natAbs n = Nat.gcd a.natAbs b.natAbs) (fun σ _ => match σ with | [_, some (.int n)] => n.toNat | _ => 0) ?_ ?_ ?_
    · refine ⟨rfl, a, b.natAbs, ?_, rfl⟩
      rw [show ((b.natAbs : Nat) : Int) = b by omega]
      rfl
    · rintro σ H' ⟨rfl, x, n, rfl, hg⟩
      refine ⟨_, rfl, rfl, _, rfl, ?_⟩
      by_cases hn : n = 0
      · subst hn
        rw [show (!decide (V.int ((0 : Nat) : Int) = V.int 0)) = false by decide]
        refine iteF ⟨_, rfl, _, rfl, ?_⟩
        rw [Nat.gcd_zero_right] at hg
        rw [show (if x < 0 then -x else x) = ((x.natAbs : Nat) : Int) by split <;> omega, hg]
        exact hQ
      · rw [show (!decide (V.int (n : Int) = V.int 0)) = true by
          rw [decide_eq_false fun e => hn (by have := V.int.inj e; omega)]; rfl]
        have hp : 0 < n := by omega
        have h2 := Int.emod_nonneg x (show (n : Int) ≠ 0 by omega)
        have h3 := Int.emod_lt_of_pos x (show (0 : Int) < n by omega)
        refine iteT ⟨_, rfl, _, rfl, .inl ⟨_, rfl, _, rfl, _, _, rfl, rfl, (by show (0 : Int) < (n : Int); omega), _, _, rfl, ?_⟩⟩
        refine ⟨⟨rfl, n, (x % n).toNat, ?_, ?_⟩, ?_⟩
        · rw [Int.toNat_of_nonneg h2]; rfl
        · rw [Int.natAbs_natCast, gcd_step x hp, hg]
        · show (x % n).toNat < ((n : Int)).toNat
          omega
    · rintro σ H' Q Q' hh ⟨v, e, r, k, e2, q⟩
      exact ⟨v, e, r, k, e2, hh _ _ q⟩
def spMade (K : PySem.W.Frag) : Sp := fun vs H Q _ => ∃ a b : Int, vs = [.int a, .int b] ∧ 0 < b ∧ b.natAbs < 2 ^ 8000 ∧ ∀ v H', Same H H' → FrV K H' v (Rat.divInt a b) → Q v H'
theorem ok__law_made (T : Txt K mg) : FnOk P w K mg base CX0 2 (He.ga K "_law_made") T.fd__law_made ["top", "bottom"] (spMade K) := by
  refine T.F__law_made.ok sc__law_made (fun vs H Q E h => ?_) (fun cdv A outer s H vs Q E hr h => ⟨_, PSs.nox
    (pss_cons (ps_set (i := 2) sc__law_made.nd rfl (.inl rfl) (pe_call (ok__law_divisor T) (hr.mono (by decide)) (by rfl) T.g__law_divisor T.F__law_divisor.kp T.b__law_divisor .nil pass0 (pa_cons (pv 0) (pa_cons (pv 1) pa_nil))))
      (pss_one (ps_ret (pe_tup (pa_cons (pe_op op_fdivA (pv 0) (pv 2)) (pa_cons (pe_op op_fdivA (pv 1) (pv 2)) pa_nil)))))), ?_⟩)
  · obtain ⟨a, b, rfl, _⟩ := h
    rfl
  · obtain ⟨a, b, rfl, h0, hl, hQ⟩ := h
    refine ⟨_, rfl, _, rfl, _, _, rfl, by omega, ?_⟩
    obtain ⟨e1, e2, e3⟩ := red a b (by omega) _ rfl
    rw [if_neg (by omega)] at e1 e2
    have c : ∀ i, CDivA i ((Nat.gcd a.natAbs b.natAbs : Nat) : Int) := fun i => gcd_ok (a := a) (b := b) (by omega) hl i _ (.inr rfl)
    refine ⟨_, rfl, _, rfl, _, _, rfl, rfl, c _, _, rfl, _, rfl, _, _, rfl, rfl, c _, two_le, fun t ht => ?_⟩
    refine hQ _ _ (same_new ht) ⟨t, rfl, sqT_of ?_⟩
    rw [upd_same, ← e1, ← e2]
end
end L05
set_option maxRecDepth 100000
set_option maxHeartbeats 4000000
namespace L05
open PySem PySem.Spec PyProof.Rows L2 Q7
section
variable {P : Program} {w : World} {K : PySem.W.Frag} {mg : Str → Option Value} {base : Heap}
def Sb (b : Addr) (H H' : Hp) : Prop := ∀ x o, H x = some o → x ≠ b → H' x = some o
theorem Sb.trans {b : Addr} {H H1 H2 : Hp} (s : Sb b H H1) (t : Sb b H1 H2) : Sb b H H2 := fun x o e n => t x o (s x o e n) n
theorem Sb.of {b : Addr} {H H' : Hp} (s : Same H H') : Sb b H H' := fun x o e _ => s x o e
theorem Sb.upd {b : Addr} {H : Hp} {o : HO} : Sb b H (upd H b o) := fun x p e n => by rw [upd_ne n]; exact e
theorem sb_mut {b p : Addr} {H H' : Hp} {o : HO} (s : Sb b H H') (h : H p = none) : Sb b H (upd H' p o) := fun x u e n => by
  rw [upd_ne (ne_of_none e h)]
  exact s x u e n
/-- a drawn place of four whole numbers -/
theorem four {l : List V} {a0 a1 a2 a3 lo hi : Int} (e : l = [.int a0, .int a1, .int a2, .int a3]) (h0 : lo ≤ a0 ∧ a0 ≤ hi) (h1 : lo ≤ a1 ∧ a1 ≤ hi) (h2 : lo ≤ a2 ∧ a2 ≤ hi) (h3 : lo ≤ a3 ∧ a3 ≤ hi) {r : Int} (r0 : 0 ≤ r) (r1 : r < 4) : ∃ w, atI l r = some (.int w) ∧ lo ≤ w ∧ w ≤ hi := by
  subst e
  have : r = 0 ∨ r = 1 ∨ r = 2 ∨ r = 3 := by omega
  rcases this with rfl | rfl | rfl | rfl
  · exact ⟨a0, rfl, h0⟩
  · exact ⟨a1, rfl, h1⟩
  · exact ⟨a2, rfl, h2⟩
  · exact ⟨a3, rfl, h3⟩
theorem four_le : 4 ≤ sizeLine := by decide
abbrev TT : Nat := 10 ^ 58
def spLPairs (K : PySem.W.Frag) : Sp := fun vs H Q _ => ∃ b s0 s1 s2, vs = [.ref b, .int 9] ∧ SrcAt H b s0 s1 s2 ∧ 0 ≤ s2 ∧ s2 < 2 ^ 36 ∧ s1.natAbs < 2 ^ 150 ∧
  ∀ p xs ps H' s0' s2' D M, Sb b H H' → SrcAt H' b s0' s1 s2' → 0 ≤ s2' → s2' ≤ s2 + 40 → H p = none → H' p = some (.lst xs) → PrsV K H' xs ps → Gd D M TT 18 ps → 0 < D → D < 2 ^ 400 → M < 2 ^ 440 → Kb 9 ps → Q (.ref p) H'
theorem nd_div {n d : Int} {D : Nat} (hd : 0 < d) (hD : 0 < D) : ND (D * d.toNat) (n.natAbs * D) (Rat.divInt n d) := by
  refine ⟨n * D, ?_, ?_⟩
  · rw [Int.natCast_mul, Int.toNat_of_nonneg (by omega), Int.mul_comm (D : Int) d]
    exact (Rat.divInt_mul_right (by omega)).symm
  · rw [Int.natAbs_mul, Int.natAbs_natCast]
    exact Nat.le_refl _
theorem pow41 {d : Int} (h1 : d ≤ 2000000000000) (h0 : 0 < d) : d.toNat < 2 ^ 41 := by omega
theorem ok__law_pairs (T : Txt K mg) : FnOk P w K mg base CX0 3 (He.ga K "_law_pairs") T.fd__law_pairs ["source", "most"] (spLPairs K) := by
  refine T.F__law_pairs.ok sc__law_pairs (fun vs H Q E h => ?_) (fun cdv A outer s H vs Q E hr h => ⟨_, PSs.nox
    (pss_cons (ps_par (i := 2) (j := 3) rfl sc__law_pairs.nd rfl rfl (by decide) rfl rfl (pa_cons (pe_ix ix_list (pe_lst (pa_cons pe_int (pa_cons pe_int (pa_cons pe_int (pa_cons (pe_op op_pow pe_int pe_int) pa_nil))))) (pe_call (ok__law_draw T) (hr.mono (by decide)) (by rfl) T.g__law_draw T.F__law_draw.kp T.b__law_draw .nil pass0 (pa_cons (pv 0) (pa_cons pe_int pa_nil))) (fun _ _ => rfl)) (pa_cons (pe_ix ix_list (pe_lst (pa_cons pe_int (pa_cons pe_int (pa_cons pe_int (pa_cons (pe_op op_pow pe_int pe_int) pa_nil))))) (pe_call (ok__law_draw T) (hr.mono (by decide)) (by rfl) T.g__law_draw T.F__law_draw.kp T.b__law_draw .nil pass0 (pa_cons (pv 0) (pa_cons pe_int pa_nil))) (fun _ _ => rfl)) pa_nil)) (by rfl))
      (pss_cons (ps_set (i := 4) sc__law_pairs.nd rfl (.inl rfl) (pe_lst pa_nil))
      (pss_cons (ps_for PassesOwn.never rfl (pi_range1 (by rfl) T.m_range (pa_cons (pe_call (ok__law_draw T) (hr.mono (by decide)) (by rfl) T.g__law_draw T.F__law_draw.kp T.b__law_draw .nil pass0 (pa_cons (pv 0) (pa_cons (pe_op op_add (pe_ifExp (pt_cmpR op_gt (pv 3) pe_int (nomark _)) (pe_callB (call_min2 rfl) (by rfl) T.m_min (by decide +kernel) (pa_cons (pv 1) (pa_cons pe_int pa_nil))) (pv 1)) pe_int) pa_nil))) pa_nil)) (pg_name (i := 5) sc__law_pairs.nd rfl (.inl rfl)) (pss_cons (ps_set (i := 6) sc__law_pairs.nd rfl (.inl rfl) (pe_call (ok__law_made T) (hr.mono (by decide)) (by rfl) T.g__law_made T.F__law_made.kp T.b__law_made .nil pass0 (pa_cons (pe_op op_sub (pe_call (ok__law_draw T) (hr.mono (by decide)) (by rfl) T.g__law_draw T.F__law_draw.kp T.b__law_draw .nil pass0 (pa_cons (pv 0) (pa_cons (pe_op op_add (pe_op op_mulW pe_int (pv 3)) pe_int) pa_nil))) (pv 3)) (pa_cons (pe_op op_add pe_int (pe_call (ok__law_draw T) (hr.mono (by decide)) (by rfl) T.g__law_draw T.F__law_draw.kp T.b__law_draw .nil pass0 (pa_cons (pv 0) (pa_cons (pe_op op_mulW pe_int (pv 3)) pa_nil)))) pa_nil))))
      (pss_cons (ps_expr (pe_bm PySem.F.plainAttrs_list PySem.F.slot_list_append PySem.F.type_list_append mt_append (pv 4) (pa_cons (pe_tup (pa_cons (pe_call (ok__law_draw T) (hr.mono (by decide)) (by rfl) T.g__law_draw T.F__law_draw.kp T.b__law_draw .nil pass0 (pa_cons (pv 0) (pa_cons (pe_op op_add (pv 2) pe_int) pa_nil))) (pa_cons (pv 6) pa_nil))) pa_nil)))
      (pss_one (ps_if (pt_cmpR op_eq (pe_call (ok__law_draw T) (hr.mono (by decide)) (by rfl) T.g__law_draw T.F__law_draw.kp T.b__law_draw .nil pass0 (pa_cons (pv 0) (pa_cons pe_int pa_nil))) pe_int (nomark _)) (pss_one (ps_expr (pe_bm PySem.F.plainAttrs_list PySem.F.slot_list_append PySem.F.type_list_append mt_append (pv 4) (pa_cons (pe_tup (pa_cons (pe_ix ix_tup (pe_ix ix_list (pv 4) (pe_un un_neg pe_int) (fun _ _ => rfl)) pe_int (fun _ _ => rfl)) (pa_cons (pe_tup (pa_cons (pe_un un_neg (pe_ix ix_tup (pv 6) pe_int (fun _ _ => rfl))) (pa_cons (pe_ix ix_tup (pv 6) pe_int (fun _ _ => rfl)) pa_nil))) pa_nil))) pa_nil)))) pss_nil)))))
      (pss_one (ps_ret (pv 4)))))), ?_⟩)
  · obtain ⟨b, s0, s1, s2, rfl, _⟩ := h
    rfl
  · obtain ⟨b, s0, s1, s2, rfl, hb, d0, d1, e1, hQ⟩ := h
    have ml : ∀ {p : Addr} {H' : Hp} {x y z : Int}, SrcAt H' b x y z → H' p = none → p ≠ b := fun hs hp e => by subst e; unfold SrcAt at hs; rw [hp] at hs; cases hs
    refine ⟨_, _, rfl, rfl, ⟨by decide, by decide, by decide⟩, four_le, fun l1 hl1 => ?_⟩
    have n1 := ml hb hl1
    have q1 := same_new (o := .lst [.int 3, .int 12, .int 40, .int (10 ^ Int.toNat 58)]) hl1
    have hb1 := q1 _ _ hb
    refine ⟨_, rfl, b, s0, s1, s2, 4, rfl, hb1, d0, by omega, e1, by decide, by decide, fun r1 t0 t2 i0 i1 j0 j1 => ?_⟩
    obtain ⟨wd, hw, w0, w1⟩ := four (lo := 1) (hi := 10 ^ 58) (l := [.int 3, .int 12, .int 40, .int (10 ^ Int.toNat 58)]) rfl ⟨by decide, by decide⟩ ⟨by decide, by decide⟩ ⟨by decide, by decide⟩ ⟨by decide, by decide⟩ i0 i1
    refine ⟨l1, _, _, _, rfl, rfl, sqL_of (by rw [upd_ne n1]; exact upd_same), hw, ?_⟩
    refine ⟨_, _, rfl, rfl, ⟨by decide, by decide, by decide⟩, four_le, fun l2 hl2 => ?_⟩
    have hb2 : SrcAt (upd (upd H l1 (.lst [.int 3, .int 12, .int 40, .int (10 ^ Int.toNat 58)])) b (.lst [.int t0, .int s1, .int t2])) b t0 s1 t2 := upd_same
    have n2 := ml hb2 hl2
    have q2 := same_new (o := .lst [.int 6, .int 6, .int 1, .int (10 ^ Int.toNat 12)]) hl2
    have hb3 := q2 _ _ hb2
    refine ⟨_, rfl, b, t0, s1, t2, 4, rfl, hb3, by omega, by omega, e1, by decide, by decide, fun r2 u0 u2 k0 k1 o0 o1 => ?_⟩
    obtain ⟨gr, hg, g0, g1⟩ := four (lo := 1) (hi := 10 ^ 12) (l := [.int 6, .int 6, .int 1, .int (10 ^ Int.toNat 12)]) rfl ⟨by decide, by decide⟩ ⟨by decide, by decide⟩ ⟨by decide, by decide⟩ ⟨by decide, by decide⟩ k0 k1
    refine ⟨l2, _, _, _, rfl, rfl, sqL_of (by rw [upd_ne n2]; exact upd_same), hg, _, _, rfl, ?_⟩
    refine ⟨by decide, fun l hl => ?_⟩
    have sb0 := ((Sb.of (b := b) q1).trans Sb.upd).trans ((Sb.of q2).trans (Sb.upd (o := .lst [.int u0, .int s1, .int u2])))
    have hb4 : SrcAt (upd (upd (upd (upd H l1 (.lst [.int 3, .int 12, .int 40, .int (10 ^ Int.toNat 58)])) b (.lst [.int t0, .int s1, .int t2])) l2 (.lst [.int 6, .int 6, .int 1, .int (10 ^ Int.toNat 12)])) b (.lst [.int u0, .int s1, .int u2])) b u0 s1 u2 := upd_same
    have lb := ml hb4 hl
    generalize upd (upd (upd (upd H l1 (.lst [.int 3, .int 12, .int 40, .int (10 ^ Int.toNat 58)])) b (.lst [.int t0, .int s1, .int t2])) l2 (.lst [.int 6, .int 6, .int 1, .int (10 ^ Int.toNat 12)])) b (.lst [.int u0, .int s1, .int u2]) = H4 at *
    have hl0 : H l = none := by
      cases e : H l with
      | none => rfl
      | some o => have := sb0 l o e lb; rw [hl] at this; cases this
    have hb5 : SrcAt (upd H4 l (.lst [])) b u0 s1 u2 := by unfold SrcAt; rw [upd_ne lb.symm]; exact hb4
    have g12 : gr ≤ 1000000000000 := g1
    refine ⟨_, rfl, _, rfl, _, _, rfl, rfl, _, rfl, ite2 (fun _ => ⟨_, rfl, _, _, rfl, ?_⟩) fun _ => ⟨_, rfl, ?_⟩⟩
    all_goals
      refine ⟨_, _, rfl, rfl, b, u0, s1, u2, _, rfl, hb5, by omega, by omega, e1, by decide, by decide, fun r c3 z3 i2 i3 j2 j3 => ?_⟩
      have i4 : r < 10 := Int.lt_of_lt_of_le i3 (by decide)
      refine ⟨r, rfl, by omega, by omega, ?_⟩
      refine for_range (lo := 0) (n := r.toNat) (fun i σ H' => Sb b H H' ∧ (∃ o5 o6, σ = [some (.ref b), some (.int 9), some (.int wd), some (.int gr), some (.ref l), o5, o6]) ∧ (∃ c z, SrcAt H' b c s1 z ∧ 0 ≤ z ∧ z ≤ s2 + 3 + 4 * i) ∧
        ∃ zs ps D M ks, H' l = some (.lst zs) ∧ PrsV K H' zs ps ∧ Gd D M TT (2 * i) ps ∧ 0 < D ∧ D < 2 ^ (42 * i + 1) ∧ M < 2 ^ (42 * i + 42) ∧ ks.length = i ∧ ∀ p ∈ ps, p.1 ∈ ks) ⟨(sb_mut sb0 hl0).trans Sb.upd, ⟨_, _, rfl⟩, ⟨c3, z3, upd_same, by omega, by omega⟩, [], [], 1, 0, [], ?_, .nil, ⟨by simp, by simp, by simp, by simp⟩, by decide, by decide, by decide, rfl, by simp⟩ ?_ ?_
      · rw [upd_ne lb, upd_same]
      · rintro i σ H' hi ⟨sb, ⟨o5, o6, rfl⟩, ⟨c, z, hs, z0, z1⟩, zs, ps, D, M, ks, hz, hP, g, hD, hD1, hM, hk, hks⟩
        have hi3 : i < 9 := by omega
        have hgm : CMulW 2 gr := cmul_of (a := 2) (b := 40) (by decide) (by omega) (by decide)
        refine ⟨_, rfl, _, rfl, _, _, rfl, rfl, hgm, _, _, rfl, rfl, b, c, s1, z, _, rfl, hs, z0, by omega, e1, by omega, by omega, fun a1 c1 y1 p0 p1 v0 v1 => ?_⟩
        refine ⟨_, rfl, _, _, rfl, rfl, ?_⟩
        refine ⟨_, rfl, _, rfl, _, _, rfl, rfl, hgm, b, c1, s1, y1, _, rfl, upd_same, by omega, by omega, e1, by omega, by omega, fun a2 c2 y2 p2 p3 v2 v3 => ?_⟩
        rw [upd_upd]
        refine ⟨_, _, rfl, rfl, _, _, rfl, (by omega : (0 : Int) < 1 + a2), ?_, fun v H2 s2' f => ?_⟩
        · refine Nat.lt_of_lt_of_le (show (1 + a2).natAbs < 2 ^ 41 by omega) (pow_le' (by decide))
        have tkA : TK H' (upd H' b (.lst [.int c2, .int s1, .int y2])) := tk_lst hs
        have hzA : upd H' b (.lst [.int c2, .int s1, .int y2]) l = some (.lst zs) := by rw [upd_ne lb]; exact hz
        have hs2 : SrcAt H2 b c2 s1 y2 := s2' _ _ upd_same
        have hz2 := s2' _ _ hzA
        have hP2 := prsV_tk hP (tkA.trans (same_tk s2'))
        have sb2 : Sb b H H2 := (sb.trans Sb.upd).trans (Sb.of s2')
        refine ⟨_, rfl, .inl ⟨rfl, _, sqL_of hz2⟩, ?_⟩
        refine ⟨_, rfl, _, rfl, _, _, rfl, rfl, b, c2, s1, y2, _, rfl, hs2, by omega, by omega, e1, by omega, ?_, fun a3 c4 y3 p4 p5 v4 v5 => ?_⟩
        · refine Nat.lt_of_lt_of_le (show (wd + 1).natAbs < 10 ^ 58 + 2 by omega) (by decide)
        refine ⟨_, rfl, two_le, fun t ht => ?_⟩
        have tkB : TK H2 (upd H2 b (.lst [.int c4, .int s1, .int y3])) := tk_lst hs2
        have hzB : upd H2 b (.lst [.int c4, .int s1, .int y3]) l = some (.lst zs) := by rw [upd_ne lb]; exact hz2
        have sn := same_new (o := .tup [.int a3, v]) ht
        have hzC := sn _ _ hzB
        have hPC := prsV_tk hP2 (tkB.trans (same_tk sn))
        have fC := frV_tk f (tkB.trans (same_tk sn))
        have sbC : Sb b H (upd (upd H2 b (.lst [.int c4, .int s1, .int y3])) t (.tup [.int a3, v])) := (sb2.trans Sb.upd).trans (Sb.of sn)
        have hsC : SrcAt (upd (upd H2 b (.lst [.int c4, .int s1, .int y3])) t (.tup [.int a3, v])) b c4 s1 y3 := sn _ _ upd_same
        have hT : upd (upd H2 b (.lst [.int c4, .int s1, .int y3])) t (.tup [.int a3, v]) t = some (.tup [.int a3, v]) := upd_same
        generalize upd (upd H2 b (.lst [.int c4, .int s1, .int y3])) t (.tup [.int a3, v]) = H3 at *
        have zlen : zs.length ≤ 18 := by rw [pLen hP]; have := g.len; omega
        have l64 := line64
        refine ⟨l, zs, _, rfl, rfl, hzC, by omega, ?_⟩
        have tkD : TK H3 (upd H3 l (.lst (zs ++ [.ref t]))) := tk_lst hzC
        have hsD : SrcAt (upd H3 l (.lst (zs ++ [.ref t]))) b c4 s1 y3 := by unfold SrcAt; rw [upd_ne lb.symm]; exact hsC
        refine ⟨_, rfl, b, c4, s1, y3, 5, rfl, hsD, by omega, by omega, e1, by decide, by decide, fun a4 c5 y4 p6 p7 v6 v7 => ?_⟩
        have hd : (0 : Int) < 1 + a2 := by omega
        have d41 : (1 + a2).toNat < 2 ^ 41 := pow41 (by omega) hd
        have n40 : (a1 - gr).natAbs < 2 ^ 40 := by omega
        have ndq : ND (D * (1 + a2).toNat) ((a1 - gr).natAbs * D) (Rat.divInt (a1 - gr) (1 + a2)) := nd_div hd hD
        have hD' : 0 < D * (1 + a2).toNat := Nat.mul_pos hD (by omega)
        have hD1' : D * (1 + a2).toNat < 2 ^ (42 * (i + 1) + 1) := mul_lt_pow hD1 d41 (by omega)
        have hM' : M * (1 + a2).toNat + (a1 - gr).natAbs * D < 2 ^ (42 * (i + 1) + 42) := by
          have h1 : M * (1 + a2).toNat < 2 ^ (42 * i + 83) := mul_lt_pow hM d41 (by omega)
          have h2 : (a1 - gr).natAbs * D < 2 ^ (42 * i + 83) := mul_lt_pow n40 hD1 (by omega)
          have h3 : (2 : Nat) ^ (42 * (i + 1) + 42) = 2 ^ (42 * i + 83) + 2 ^ (42 * i + 83) := by
            rw [show 42 * (i + 1) + 42 = (42 * i + 83) + 1 by omega, Nat.pow_succ]; omega
          omega
        have gS := (g.scale (k := (1 + a2).toNat) (by omega)).mono (show M * (1 + a2).toNat ≤ M * (1 + a2).toNat + (a1 - gr).natAbs * D by omega) (Nat.le_refl _) (Nat.le_refl _)
        have tick0 : (0 : Int) ≤ a3 := p4
        have tick1 : a3 ≤ (TT : Int) := by have : a3 < wd + 1 := p5; have : wd ≤ 10 ^ 58 := w1; show a3 ≤ 10 ^ 58; omega
        have one : ∀ q : Rat, ND (D * (1 + a2).toNat) ((a1 - gr).natAbs * D) q → Gd (D * (1 + a2).toNat) (M * (1 + a2).toNat + (a1 - gr).natAbs * D) TT 1 [(a3, q)] := fun q hq => by
          refine ⟨?_, ?_, ?_, by simp⟩
          · intro p hp; rw [List.mem_singleton] at hp; subst hp; exact hq.mono (by omega)
          · intro p hp; rw [List.mem_singleton] at hp; subst hp; exact tick0
          · intro p hp; rw [List.mem_singleton] at hp; subst hp; exact tick1
        have ksn : ∀ qs : Rw, (∀ p ∈ qs, p.1 = a3) → ∀ p ∈ ps ++ qs, p.1 ∈ ks ++ [a3] := fun qs hq p hp => by
          rcases List.mem_append.mp hp with h | h
          · exact List.mem_append_left _ (hks p h)
          · rw [hq p h]; exact List.mem_append_right _ (by simp)
        have kl : (ks ++ [a3]).length = i + 1 := by rw [List.length_append, hk]; rfl
        refine ⟨rfl, _, rfl, ite2 (fun _ => ?_) fun _ => ?_⟩
        · obtain ⟨pv', rfl, Sv⟩ := id fC
          have tkE : TK (upd H3 l (.lst (zs ++ [.ref t]))) (upd (upd H3 l (.lst (zs ++ [.ref t]))) b (.lst [.int c5, .int s1, .int y4])) := tk_lst hsD
          have hL : upd (upd H3 l (.lst (zs ++ [.ref t]))) b (.lst [.int c5, .int s1, .int y4]) l = some (.lst (zs ++ [.ref t])) := by rw [upd_ne lb, upd_same]
          have tk3 := tkD.trans tkE
          have hT5 := sqT_tk (K := K) (sqT_of hT) tk3
          have Sv5 := sqT_tk Sv tk3
          have hP5 : PrsV K _ (zs ++ [.ref t]) (ps ++ [(a3, Rat.divInt (a1 - gr) (1 + a2))]) := pApp (prsV_tk hPC tk3) (.cons ⟨t, _, rfl, hT5, frV_tk fC tk3⟩ .nil)
          have hs5 : SrcAt (upd (upd H3 l (.lst (zs ++ [.ref t]))) b (.lst [.int c5, .int s1, .int y4])) b c5 s1 y4 := upd_same
          have sb5 : Sb b H (upd (upd H3 l (.lst (zs ++ [.ref t]))) b (.lst [.int c5, .int s1, .int y4])) := (sb_mut sbC hl0).trans Sb.upd
          generalize upd (upd H3 l (.lst (zs ++ [.ref t]))) b (.lst [.int c5, .int s1, .int y4]) = H5 at *
          refine ⟨_, rfl, .inl ⟨rfl, _, sqL_of hL⟩, ?_⟩
          refine ⟨_, rfl, _, rfl, l, _, _, _, rfl, rfl, sqL_of hL, atI_last zs (.ref t), t, _, _, _, rfl, rfl, hT5, rfl, ?_⟩
          refine ⟨_, rfl, pv', _, _, _, rfl, rfl, Sv5, rfl, _, rfl, _, rfl, pv', _, _, _, rfl, rfl, Sv5, rfl, two_le, fun t2 ht2 => ⟨two_le, fun t3 ht3 => ?_⟩⟩
          have m2 := same_new (o := .tup [.int (-(Rat.divInt (a1 - gr) (1 + a2)).num), .int (Rat.divInt (a1 - gr) (1 + a2)).den]) ht2
          have m3 := same_new (o := .tup [.int a3, .ref t2]) ht3
          have m23 := m2.trans m3
          have hL2 := m23 _ _ hL
          have zl2 : (zs ++ [V.ref t]).length ≤ 19 := by rw [List.length_append, List.length_singleton]; omega
          refine ⟨l, _, _, rfl, rfl, hL2, by omega, ?_⟩
          have tkL : TK (upd (upd H5 t2 (.tup [.int (-(Rat.divInt (a1 - gr) (1 + a2)).num), .int (Rat.divInt (a1 - gr) (1 + a2)).den])) t3 (.tup [.int a3, .ref t2])) (upd (upd (upd H5 t2 (.tup [.int (-(Rat.divInt (a1 - gr) (1 + a2)).num), .int (Rat.divInt (a1 - gr) (1 + a2)).den])) t3 (.tup [.int a3, .ref t2])) l (.lst (zs ++ [.ref t] ++ [.ref t3]))) := tk_lst hL2
          have fneg : FrV K (upd (upd H5 t2 (.tup [.int (-(Rat.divInt (a1 - gr) (1 + a2)).num), .int (Rat.divInt (a1 - gr) (1 + a2)).den])) t3 (.tup [.int a3, .ref t2])) (.ref t2) (-(Rat.divInt (a1 - gr) (1 + a2))) := frV_same (frV_neg upd_same) m3
          refine ⟨sb_mut (sb5.trans (Sb.of m23)) hl0, ⟨_, _, rfl⟩, ⟨c5, y4, ?_, by omega, by omega⟩, zs ++ [.ref t] ++ [.ref t3], ps ++ [(a3, Rat.divInt (a1 - gr) (1 + a2)), (a3, -(Rat.divInt (a1 - gr) (1 + a2)))], _, _, ks ++ [a3], upd_same, ?_, ?_, hD', hD1', hM', kl, ksn _ (by simp)⟩
          · unfold SrcAt; rw [upd_ne lb.symm]; exact m23 _ _ hs5
          · rw [show ps ++ [(a3, Rat.divInt (a1 - gr) (1 + a2)), (a3, -(Rat.divInt (a1 - gr) (1 + a2)))] = (ps ++ [(a3, Rat.divInt (a1 - gr) (1 + a2))]) ++ [(a3, -(Rat.divInt (a1 - gr) (1 + a2)))] by simp]
            exact pApp (prsV_tk hP5 ((same_tk m23).trans tkL)) (.cons ⟨t3, _, rfl, sqT_tk (sqT_of upd_same) tkL, frV_tk fneg tkL⟩ .nil)
          · have g2 := (gS.app (one _ ndq)).app (one _ ndq.neg)
            rw [List.append_assoc] at g2
            exact g2.mono (Nat.le_refl _) (Nat.le_refl _) (by omega)
        · refine ⟨(sb_mut sbC hl0).trans Sb.upd, ⟨_, _, rfl⟩, ⟨c5, y4, upd_same, by omega, by omega⟩, zs ++ [.ref t], ps ++ [(a3, Rat.divInt (a1 - gr) (1 + a2))], _, _, ks ++ [a3], by rw [upd_ne lb, upd_same], ?_, (gS.app (one _ ndq)).mono (Nat.le_refl _) (Nat.le_refl _) (by omega), hD', hD1', hM', kl, ksn _ (by simp)⟩
          have tkE : TK (upd H3 l (.lst (zs ++ [.ref t]))) (upd (upd H3 l (.lst (zs ++ [.ref t]))) b (.lst [.int c5, .int s1, .int y4])) := tk_lst hsD
          exact pApp (prsV_tk hPC (tkD.trans tkE)) (.cons ⟨t, v, rfl, sqT_tk (sqT_of hT) (tkD.trans tkE), frV_tk fC (tkD.trans tkE)⟩ .nil)
      · rintro σ H' ⟨sb, ⟨o5, o6, rfl⟩, ⟨c, z, hs, z0, z1⟩, zs, ps, D, M, ks, hz, hP, g, hD, hD1, hM, hk, hks⟩
        refine ⟨_, rfl, hQ l zs ps H' c z D M sb hs z0 (by omega) hl0 hz hP (g.mono (Nat.le_refl _) (Nat.le_refl _) (by omega)) hD (up_pow hD1 (by omega)) (up_pow hM (by omega)) ⟨ks, by omega, hks⟩⟩
end
end L05
set_option maxRecDepth 100000
set_option maxHeartbeats 4000000
namespace L05
open PySem PySem.Spec PyProof.Rows L2 Q7
section
variable {P : Program} {w : World} {K : PySem.W.Frag} {mg : Str → Option Value} {base : Heap}
def spPlain (K : PySem.W.Frag) : Sp := fun vs H Q _ => ∃ l xs ps, vs = [.ref l] ∧ SqL K H l xs ∧ PrsV K H xs ps ∧ Gw ps ∧
  ∀ p ys H', Same H H' → H p = none → H' p = some (.lst ys) → PrsV K H' ys (norm ps) → Q (.ref p) H'
theorem frV_tup {H : Hp} {t : Addr} {a : Int} {b : Nat} {q : Rat} (h : H t = some (.tup [.int a, .int b])) (e1 : q.num = a) (e2 : q.den = b) : FrV K H (.ref t) q := ⟨t, rfl, sqT_of (by rw [e1, e2]; exact h)⟩
theorem frV_cast {H : Hp} {v : V} {p q : Rat} (h : FrV K H v p) (e : p = q) : FrV K H v q := by subst e; exact h
theorem ok__law_sums (T : Txt K mg) : FnOk P w K mg base CX0 3 (He.ga K "_law_sums") T.fd__law_sums ["given"] (spPlain K) := by
  refine T.F__law_sums.ok sc__law_sums (fun vs H Q E h => ?_) (fun cdv A outer s H vs Q E hr h => ⟨_, PSs.nox
    (pss_cons (ps_set (i := 1) sc__law_sums.nd rfl (.inr rfl) pe_dnewK)
      (pss_cons (ps_for PassesOwn.never rfl (pi_list (pv 0)) (pg_tup rfl (pgs_cons (pg_name (i := 2) sc__law_sums.nd rfl (.inl rfl)) (pgs_cons (pg_name (i := 3) sc__law_sums.nd rfl (.inl rfl)) pgs_nil))) (pss_cons (ps_asg (pe_dget2 (hu_of hr) (pv 1) (pv 2) (pe_tup (pa_cons pe_int (pa_cons pe_int pa_nil))) ⟨by rfl, by rfl, by rfl, by rfl⟩) (pg_tup rfl (pgs_cons (pg_name (i := 4) sc__law_sums.nd rfl (.inl rfl)) (pgs_cons (pg_name (i := 5) sc__law_sums.nd rfl (.inl rfl)) pgs_nil))))
      (pss_one (ps_dput (hu_of hr) (pv 1) (pv 2) (pe_call (ok__law_made T) (hr.mono (by decide)) (by rfl) T.g__law_made T.F__law_made.kp T.b__law_made .nil pass0 (pa_cons (pe_op op_add (pe_op op_mulW (pv 4) (pe_ix ix_tup (pv 3) pe_int (fun _ _ => rfl))) (pe_op op_mulW (pe_ix ix_tup (pv 3) pe_int (fun _ _ => rfl)) (pv 5))) (pa_cons (pe_op op_mulW (pv 5) (pe_ix ix_tup (pv 3) pe_int (fun _ _ => rfl))) pa_nil))) rfl))))
      (pss_one (ps_ret (pe_lc (own := [("tick", 2)]) rfl sc__law_sums.nd (pi_list (pe_callB (call_sortedDIb rfl) (by rfl) T.m_sorted (by decide +kernel) (pa_cons (pv 1) pa_nil))) (blkOk_by (N := ["given", "sums", "tick", "share", "top", "bottom"]) (sc := defScope s__law_sums) (by decide +kernel)) (fun _ _ _ _ _ => (pg_name (i := 2) sc__law_sums.nd rfl (.inl rfl) (hf := .inr rfl))) (fun _ _ _ _ _ => (pts_one (pt_cmpR op_ne (pe_ix (show IxR _ (rIxT K) from ix_tup) (pe_dget (hu_of hr) (pv 1) (pv 2) (fun _ _ => rfl)) pe_int (fun _ _ => rfl)) pe_int (nomark _)))) (fun _ _ _ _ _ => (pe_tup (pa_cons (pv 2) (pa_cons (pe_dget (hu_of hr) (pv 1) (pv 2) (fun _ _ => rfl)) pa_nil))))))))), ?_⟩)
  · obtain ⟨l, xs, ps, rfl, _⟩ := h
    rfl
  · obtain ⟨l, xs, ps, rfl, S, hp, g, hQ⟩ := h
    have hlen : xs.length ≤ 2100 := by rw [pLen hp]; exact g.len
    have hlen2 : (sums ps).length ≤ 2100 := by have := sums_len ps; have := g.len; omega
    intro d hd
    refine ⟨_, rfl, l, rfl, ⟨_, sqL_same S (same_new hd)⟩, ?_⟩
    refine for_list (xs := xs) (fun i σ H' => Same H H' ∧ ∃ ks o3 o4 o5 o6, H' d = some (.dK ks) ∧ KvF K H' ks (sums (ps.take i)) ∧ σ = [some (.ref l), some (.ref d), o3, o4, o5, o6]) ⟨same_new hd, [], _, _, _, _, upd_same, .nil, rfl⟩ (fun i σ H' _ p => sqL_same S p.1) ?_ ?_
    · rintro i v σ H' hv ⟨sm, ks, o3, o4, o5, o6, hk, hK, rfl⟩
      obtain ⟨p, hq, ⟨pa, y, rfl, Sp, fy⟩⟩ := pGet hp hv
      refine ⟨pa, _, rfl, sqT_same Sp sm, rfl, _, _, rfl, _, _, rfl, rfl, ?_⟩
      have hmem := List.mem_of_getElem? hq
      refine ⟨_, rfl, d, rfl, .inl ⟨ks, .inl hk⟩, _, rfl, two_le, fun t ht => ?_⟩
      have s0 := same_new (o := .tup [.int 0, .int 1]) ht
      have hK0 := kvF_tk hK (same_tk s0)
      have hdg : DGet (upd H' t (.tup [.int 0, .int 1])) d (.int p.1) (valV ks (Sum.inl p.1)) := DGet.k (k := Sum.inl p.1) (s0 _ _ hk)
      have hf : FrV K (upd H' t (.tup [.int 0, .int 1])) ((valV ks (Sum.inl p.1)).getD (.ref t)) (look (sums (ps.take i)) p.1) := by
        rcases kvF_get p.1 hK0 with ⟨a, _, c⟩ | ⟨w, a, _, c⟩
        · rw [a, c]
          exact frV_tup (q := 0) upd_same rfl rfl
        · rw [a]
          exact c
      obtain ⟨fp, ef, Sf⟩ := hf
      have fy0 := frV_same fy (sm.trans s0)
      obtain ⟨py, rfl, Sy⟩ := id fy0
      have bL := g.look i p.1
      have bP := g.mem p hmem
      refine ⟨_, hdg, fp, _, ef, Sf, rfl, _, _, rfl, _, _, rfl, rfl, ?_⟩
      refine ⟨_, rfl, _, rfl, py, _, _, _, rfl, rfl, Sy, rfl, _, _, rfl, rfl, mulW (nmB bL) (dnB bP), _, rfl, py, _, _, _, rfl, rfl, Sy, rfl, _, rfl, _, _, rfl, rfl, mulW (nmB bP) (dnB bL), _, _, rfl, rfl, ?_⟩
      refine ⟨_, rfl, _, rfl, py, _, _, _, rfl, rfl, Sy, rfl, _, _, rfl, rfl, mulW (dnB bL) (dnB bP), _, _, rfl, den_mul_pos _ _, mul8 (dnB bL) (dnB bP), fun z H3 s3 r => ?_⟩
      replace r := frV_cast r (add_eq _ _).symm
      have s03 := s0.trans s3
      refine ⟨_, rfl, _, rfl, d, _, rfl, DPut.k (k := Sum.inl p.1) (s03 _ _ hk) ?_, ?_⟩
      · have h1 := hK.length
        have h2 := sums_len (ps.take i)
        have h3 := line22
        have h4 := g.len
        rw [List.length_take] at h2
        omega
      · refine ⟨same_mut (sm.trans s03) hd, _, _, _, _, _, upd_same, ?_, rfl⟩
        rw [sums_take hq]
        exact kvF_tk (kvF_put (kvF_tk hK (same_tk s03)) (sums_nodup _) r) (tk_dk (s03 _ _ hk))
    · rintro σ H3 ⟨s3, ks, o3, o4, o5, o6, hk, hK, rfl⟩
      rw [pLen hp, List.take_length] at hK
      refine ⟨_, rfl, d, ks, (sums ps).map (·.1), rfl, .inl hk, kvF_keys hK, ?_, fun ys sp hperm hsort hsp => ⟨sp, rfl, ⟨_, sqL_of upd_same⟩, fun D2 hD2 => ?_⟩⟩
      · rw [List.length_map]; omega
      have nd : ys.Nodup := hperm.nodup_iff.mpr (sums_nodup ps)
      have ylen : ys.length ≤ 2100 := by rw [hperm.length_eq, List.length_map]; exact hlen2
      have s4 := same_new (o := .lst (ys.map V.int)) hsp
      refine lc_list (xs := ys.map V.int) (fun i H' => Same (upd H3 sp (.lst (ys.map V.int))) H' ∧ ∃ zs, H' D2 = some (.lst zs) ∧ PrsV K H' zs (pick (sums ps) (ys.take i)) ∧ zs.length ≤ i) ⟨same_new hD2, [], upd_same, .nil, Nat.le_refl _⟩ (fun i H' _ p => sqL_of (p.1 _ _ upd_same)) ?_ ?_
      · rintro i v H' hv ⟨sm, zs, hz, hP, hzl⟩
        have hi : i < ys.length := by
          have := (List.getElem?_eq_some_iff.mp hv).1
          rwa [List.length_map] at this
        obtain ⟨t, ht, rfl⟩ : ∃ t, ys[i]? = some t ∧ v = .int t := by
          rw [List.getElem?_map] at hv
          obtain ⟨t, a, b⟩ := Option.map_eq_some_iff.mp hv
          exact ⟨t, a, b.symm⟩
        have hK' := kvF_tk hK (same_tk (s4.trans sm))
        have hk' := sm _ _ (s4 _ _ hk)
        have hg : DGet H' d (.int t) (valV ks (Sum.inl t)) := DGet.k (k := Sum.inl t) hk'
        obtain ⟨w, a, ft⟩ : ∃ w, valV ks (Sum.inl t) = some w ∧ FrV K H' w (look (sums ps) t) := by
          rcases kvF_get t hK' with ⟨a, b, c⟩ | ⟨w, a, b, c⟩
          · exact absurd (hperm.mem_iff.mp (List.mem_of_getElem? ht)) b
          · exact ⟨w, a, c⟩
        rw [a] at hg
        refine ⟨rfl, ?_⟩
        obtain ⟨pw, rfl, Sw⟩ := id ft
        refine ⟨_, rfl, _, rfl, d, _, rfl, hg, pw, _, _, _, rfl, rfl, Sw, rfl, rfl, _, rfl, ?_⟩
        by_cases hz0 : look (sums ps) t = 0
        · rw [show (!decide (V.int (look (sums ps) t).num = V.int 0)) = false by rw [hz0]; decide]
          refine iteF ?_
          exact ⟨sm, zs, hz, by rw [pick_snoc ht, if_pos hz0]; exact hP, by omega⟩
        · rw [show (!decide (V.int (look (sums ps) t).num = V.int 0)) = true by
            rw [decide_eq_false fun e => hz0 (Rat.num_eq_zero.mp (V.int.inj e))]; rfl]
          refine iteT ?_
          refine ⟨_, rfl, _, rfl, _, rfl, d, _, rfl, hg, two_le, fun t1 ht1 => ?_⟩
          have s1 := same_new (o := .tup [.int t, .ref pw]) ht1
          have hz1 := s1 _ _ hz
          refine ⟨zs, hz1, by have := line22; omega, same_mut (sm.trans s1) hD2, _, upd_same, ?_, by rw [List.length_append, List.length_singleton]; omega⟩
          rw [pick_snoc ht, if_neg hz0]
          exact pApp (prsV_tk hP ((same_tk s1).trans (tk_lst hz1))) (.cons ⟨t1, _, rfl, sqT_tk (sqT_of upd_same) (tk_lst hz1), frV_tk (frV_same ft s1) (tk_lst hz1)⟩ .nil)
      · rintro H4 ⟨sm4, zs, hz, hP, _⟩
        rw [List.length_map, List.take_length, norm_pick hperm hsort] at hP
        have s5 := s3.trans s4
        have hD0 : H D2 = none := s5.free hD2
        exact hQ D2 zs H4 (s5.trans sm4) hD0 hz hP
end
end L05
set_option maxRecDepth 100000
set_option maxHeartbeats 4000000
namespace L05
open PySem PySem.Spec PyProof.Rows L2 Q7
section
variable {P : Program} {w : World} {K : PySem.W.Frag} {mg : Str → Option Value} {base : Heap}
/-! ### what is refused -/
abbrev IR (K : PySem.W.Frag) : Addr := He.ga K "InvalidRow"
abbrev IT (K : PySem.W.Frag) : Addr := He.ga K "InvalidTick"
theorem kiR_same {H H' : Hp} {v : V} {t : String} (s : Same H H') (h : KiR K H v t) : KiR K H' v t := h.elim (fun k => .inl (ki_same s k)) fun ⟨e, x, dx, fs, ev, hx⟩ => .inr ⟨e, x, dx, fs, ev, s _ _ hx⟩
theorem noTick_same {H H' : Hp} {v : V} (s : Same H H') (h : NoTick K H v) : NoTick K H' v := h.elim (fun ⟨t, k, n⟩ => .inl ⟨t, kiR_same s k, n⟩) .inr
theorem noPr_same {H H' : Hp} {v : V} (s : Same H H') (h : NoPr K H v) : NoPr K H' v := by
  cases h with
  | kind k n => exact .kind (ki_same s k) n
  | many S n => exact .many (Q7.sqT_same s S) n
  | tick S n => exact .tick (Q7.sqT_same s S) (noTick_same s n)
  | share S h0 n => exact .share (Q7.sqT_same s S) h0 (noFr_same s n)
/-- is_pair of any value that is told of -/
def Jd (K : PySem.W.Frag) (H : Hp) (v : V) (b : Bool) : Prop := (b = true ∧ ∃ t, PrV K H v t ∧ 0 ≤ t.1) ∨ (b = false ∧ NoPr K H v)
theorem jd_same {H H' : Hp} {v : V} {b : Bool} (s : Same H H') (h : Jd K H v b) : Jd K H' v b := h.elim (fun ⟨e, t, p, z⟩ => .inl ⟨e, t, prV_tk p (same_tk s), z⟩) fun ⟨e, n⟩ => .inr ⟨e, noPr_same s n⟩
def spJd (K : PySem.W.Frag) : Sp := fun vs H Q _ => ∃ v b, vs = [v] ∧ Jd K H v b ∧ Q (.bl b) H
theorem ok__is_pair_E (T : Txt K mg) : FnOk P w K mg base CX0 3 (He.ga K "_is_pair") T.fd__is_pair ["value"] (spJd K) := by
  have F := fnOk_or (ok__is_pair (P := P) (w := w) (base := base) T) (ok__is_pair_N T)
  have key : ∀ vs H Q E, spJd K vs H Q E → spPairT K vs H Q E ∨ spNoPr K vs H Q E := by
    rintro vs H Q E ⟨v, b, e, ⟨rfl, t, p, z⟩ | ⟨rfl, n⟩, q⟩
    · exact .inl ⟨v, t, e, p, z, q⟩
    · exact .inr ⟨v, e, n, q⟩
  exact ⟨fun as H Q E h => F.len as H Q E (key _ _ _ _ h), fun A o s H ar r as Q E rm ev b v e => F.run A o s H ar r as Q E rm ev b v (key _ _ _ _ e)⟩
def spNT (K : PySem.W.Frag) : Sp := fun vs H Q E => ∃ v, vs = [v] ∧ NoTick K H v ∧ E (.ref (IT K)) none H
theorem ok__check_tick_B (T : Txt K mg) : FnOk P w K mg base (L2.CX P w) 3 (He.ga K "_check_tick") T.fd__check_tick ["value"] (spNT K) := by
  refine T.F__check_tick.ok sc__check_tick (fun vs H Q E h => ?_) (fun cdv A outer s H vs Q E hr h => ⟨_,
    (pss_one (ps_if (pt_not (pt_val (pe_call (ok_is_tick_A T) (hr.mono (by decide)) (by rfl) T.g_is_tick T.F_is_tick.kp T.b_is_tick .nil pass0 (pa_cons (pv 0) pa_nil)))) (pss_one (ps_raise rfl (takes_of rfl rfl rfl rfl) (pmk_own PySem.F.excBase_ValueError T.x_IT T.g_InvalidTick T.k_IT (raises_own T.s_IT T.t_IT) (by rfl)))) pss_nil)), ?_⟩)
  · obtain ⟨v, rfl, _⟩ := h
    rfl
  · obtain ⟨v, rfl, n, hE⟩ := h
    exact ⟨_, rfl, _, rfl, n, _, rfl, iteT hE⟩
def NoRow (K : PySem.W.Frag) (H : Hp) (v : V) : Prop := ∃ t, Ki K H v t
def spNR (K : PySem.W.Frag) : Sp := fun vs H Q E => ∃ v, vs = [v] ∧ NoRow K H v ∧ E (.ref (IR K)) none H
theorem ok__check_row_B (T : Txt K mg) : FnOk P w K mg base (L2.CX P w) 1 (He.ga K "_check_row") T.fd__check_row ["value"] (spNR K) := by
  refine T.F__check_row.ok sc__check_row (fun vs H Q E h => ?_) (fun cdv A outer s H vs Q E hr h => ⟨_,
    (pss_one (ps_if (pt_not (pt_val (pe_callB call_isi (by rfl) T.m_isinstance (by decide +kernel) (pa_cons (pv 0) (pa_cons (pe_glob (v := V.ref (He.ga K "Row")) rfl T.g_Row rfl) pa_nil))))) (pss_one (ps_raise rfl (takes_of rfl rfl rfl rfl) (pmk_own PySem.F.excBase_ValueError T.x_IR T.g_InvalidRow T.k_IR (raises_own T.s_IR T.t_IR) (by rfl)))) pss_nil)), ?_⟩)
  · obtain ⟨v, rfl, _⟩ := h
    rfl
  · obtain ⟨v, rfl, ⟨t, ty, ht⟩, hE⟩ := h
    exact ⟨_, rfl, _, _, _, _, _, rfl, .own _, ty, T.k_row t ht, _, rfl, iteT hE⟩
def spNT2 (K : PySem.W.Frag) : Sp := fun vs H Q E => ∃ u v, vs = [u, v] ∧ NoTick K H v ∧ E (.ref (IT K)) none H
theorem ok_Row_moved_B (T : Txt K mg) : FnOk P w K mg base (L2.CX P w) 4 (He.ma K (He.ga K "Row") "moved") T.fd_Row_moved ["self", "ticks"] (spNT2 K) := by
  refine T.F_Row_moved.ok sc_Row_moved (fun vs H Q E h => ?_) (fun cdv A outer s H vs Q E hr h => ⟨_,
    (pss_cons (ps_expr (pe_call (ok__check_tick_B T) (hr.mono (by decide)) (by rfl) T.g__check_tick T.F__check_tick.kp T.b__check_tick .nil (passes_call (takes_of rfl rfl rfl rfl) (fun _ _ _ _ z => z)) (pa_cons (pv 1) pa_nil))) (pss_one ps_never)), ?_⟩)
  · obtain ⟨u, v, rfl, _⟩ := h
    rfl
  · obtain ⟨u, v, rfl, n, hE⟩ := h
    exact ⟨_, rfl, v, rfl, n, hE⟩
theorem ok_Row_cut_B (T : Txt K mg) : FnOk P w K mg base (L2.CX P w) 4 (He.ma K (He.ga K "Row") "cut") T.fd_Row_cut ["self", "tick"] (spNT2 K) := by
  refine T.F_Row_cut.ok sc_Row_cut (fun vs H Q E h => ?_) (fun cdv A outer s H vs Q E hr h => ⟨_,
    (pss_cons (ps_expr (pe_call (ok__check_tick_B T) (hr.mono (by decide)) (by rfl) T.g__check_tick T.F__check_tick.kp T.b__check_tick .nil (passes_call (takes_of rfl rfl rfl rfl) (fun _ _ _ _ z => z)) (pa_cons (pv 1) pa_nil))) (pss_one ps_never)), ?_⟩)
  · obtain ⟨u, v, rfl, _⟩ := h
    rfl
  · obtain ⟨u, v, rfl, n, hE⟩ := h
    exact ⟨_, rfl, v, rfl, n, hE⟩
theorem ok_Row_at_B (T : Txt K mg) : FnOk P w K mg base (L2.CX P w) 4 (He.ma K (He.ga K "Row") "at") T.fd_Row_at ["self", "tick"] (spNT2 K) := by
  refine T.F_Row_at.ok sc_Row_at (fun vs H Q E h => ?_) (fun cdv A outer s H vs Q E hr h => ⟨_,
    (pss_cons (ps_expr (pe_call (ok__check_tick_B T) (hr.mono (by decide)) (by rfl) T.g__check_tick T.F__check_tick.kp T.b__check_tick .nil (passes_call (takes_of rfl rfl rfl rfl) (fun _ _ _ _ z => z)) (pa_cons (pv 1) pa_nil))) (pss_one ps_never)), ?_⟩)
  · obtain ⟨u, v, rfl, _⟩ := h
    rfl
  · obtain ⟨u, v, rfl, n, hE⟩ := h
    exact ⟨_, rfl, v, rfl, n, hE⟩
theorem ok_Row_up_to_B (T : Txt K mg) : FnOk P w K mg base (L2.CX P w) 4 (He.ma K (He.ga K "Row") "up_to") T.fd_Row_up_to ["self", "tick"] (spNT2 K) := by
  refine T.F_Row_up_to.ok sc_Row_up_to (fun vs H Q E h => ?_) (fun cdv A outer s H vs Q E hr h => ⟨_,
    (pss_cons (ps_expr (pe_call (ok__check_tick_B T) (hr.mono (by decide)) (by rfl) T.g__check_tick T.F__check_tick.kp T.b__check_tick .nil (passes_call (takes_of rfl rfl rfl rfl) (fun _ _ _ _ z => z)) (pa_cons (pv 1) pa_nil))) (pss_one ps_never)), ?_⟩)
  · obtain ⟨u, v, rfl, _⟩ := h
    rfl
  · obtain ⟨u, v, rfl, n, hE⟩ := h
    exact ⟨_, rfl, v, rfl, n, hE⟩
def spNR2 (K : PySem.W.Frag) : Sp := fun vs H Q E => ∃ u v, vs = [u, v] ∧ NoRow K H v ∧ E (.ref (IR K)) none H
theorem ok_Row___add___B (T : Txt K mg) : FnOk P w K mg base (L2.CX P w) 2 (He.ma K (He.ga K "Row") "__add__") T.fd_Row___add__ ["self", "other"] (spNR2 K) := by
  refine T.F_Row___add__.ok sc_Row___add__ (fun vs H Q E h => ?_) (fun cdv A outer s H vs Q E hr h => ⟨_,
    (pss_cons (ps_expr (pe_call (ok__check_row_B T) (hr.mono (by decide)) (by rfl) T.g__check_row T.F__check_row.kp T.b__check_row .nil (passes_call (takes_of rfl rfl rfl rfl) (fun _ _ _ _ z => z)) (pa_cons (pv 1) pa_nil))) (pss_one ps_never)), ?_⟩)
  · obtain ⟨u, v, rfl, _⟩ := h
    rfl
  · obtain ⟨u, v, rfl, n, hE⟩ := h
    exact ⟨_, rfl, v, rfl, n, hE⟩
theorem ok_Row___mul___B (T : Txt K mg) : FnOk P w K mg base (L2.CX P w) 2 (He.ma K (He.ga K "Row") "__mul__") T.fd_Row___mul__ ["self", "other"] (spNR2 K) := by
  refine T.F_Row___mul__.ok sc_Row___mul__ (fun vs H Q E h => ?_) (fun cdv A outer s H vs Q E hr h => ⟨_,
    (pss_cons (ps_expr (pe_call (ok__check_row_B T) (hr.mono (by decide)) (by rfl) T.g__check_row T.F__check_row.kp T.b__check_row .nil (passes_call (takes_of rfl rfl rfl rfl) (fun _ _ _ _ z => z)) (pa_cons (pv 1) pa_nil))) (pss_cons ps_never (pss_one ps_never))), ?_⟩)
  · obtain ⟨u, v, rfl, _⟩ := h
    rfl
  · obtain ⟨u, v, rfl, n, hE⟩ := h
    exact ⟨_, rfl, v, rfl, n, hE⟩
/-- why a value makes no row -/
def NoRs (K : PySem.W.Frag) (H : Hp) (v : V) : Prop := (∃ t, Ki K H v t ∧ t ≠ "list" ∧ t ≠ "tuple") ∨ (∃ x dx fs, v = .ref x ∧ H x = some (.ins (RC K) dx fs)) ∨
  ∃ l xs bs, v = .ref l ∧ SqL K H l xs ∧ Paired (Jd K H) xs bs ∧ bs.all id = false ∧ xs.length ≤ 2100
def NoRt (K : PySem.W.Frag) (H : Hp) (v : V) : Prop := ∃ l xs bs, v = .ref l ∧ SqT K H l xs ∧ Paired (Jd K H) xs bs ∧ bs.all id = false ∧ xs.length ≤ 2100
def spNI (K : PySem.W.Frag) (No : PySem.W.Frag → Hp → V → Prop) : Sp := fun vs H Q E => ∃ u v, vs = [u, v] ∧ No K H v ∧ ∀ H', Same H H' → E (.ref (IR K)) none H'
theorem kinds_lt {t : String} (h1 : t ≠ "list") (h2 : t ≠ "tuple") : (t == "list" || t == "tuple") = false := by simp [h1, h2]
theorem jds_same {H H' : Hp} (s : Same H H') {xs : List V} {bs : List Bool} (h : Paired (Jd K H) xs bs) : Paired (Jd K H') xs bs := pImp (fun _ _ z => jd_same s z) h
theorem take_bl {bs : List Bool} {i : Nat} {b : Bool} (h : bs[i]? = some b) : (bs.take i).map V.bl ++ [.bl b] = (bs.take (i + 1)).map V.bl := by
  rw [List.take_succ, h, List.map_append]
  rfl
theorem ok_Row___init___B (T : Txt K mg) : FnOk P w K mg base (L2.CX P w) 4 (He.ma K (He.ga K "Row") "__init__") T.fd_Row___init__ ["self", "pairs"] (spNI K NoRs) := by
  refine T.F_Row___init__.ok sc_Row___init__ (fun vs H Q E h => ?_) (fun cdv A outer s H vs Q E hr h => ⟨_,
    (pss_cons (ps_if (PW.pt (pw_or (pt_not (pt_val (pe_callB call_isiT (by rfl) T.m_isinstance (by decide +kernel) (pa_cons (pv 1) (pa_cons (pe_tup (pa_cons (pe_bltn rfl T.m_list (v := .ty "list") (u := .type "list") (by decide +kernel) rfl) (pa_cons (pe_bltn rfl T.m_tuple (v := .ty "tuple") (u := .type "tuple") (by decide +kernel) rfl) pa_nil))) pa_nil))))) (pw_or1 (pt_not (pt_val (pe_callB (cr_all rfl) (by rfl) T.m_all (by decide +kernel) (pa_cons (pe_lc (own := [("pair", 5)]) rfl sc_Row___init__.nd (pi_list (pv 1)) (blkOk_by (N := ["self", "pairs", "sums", "tick", "share", "pair"]) (sc := defScope s_Row___init__) (by decide +kernel)) (fun _ _ _ _ _ => (pg_name (i := 5) sc_Row___init__.nd rfl (.inl rfl) (hf := .inr rfl))) (fun _ _ _ _ _ => pts_nil) (fun _ _ _ _ _ => (pe_call (ok__is_pair_E T) (hr.mono (by decide)) (by rfl) T.g__is_pair T.F__is_pair.kp T.b__is_pair .nil pass0 (pa_cons (pv 5) pa_nil)))) pa_nil))))))) (pss_one (ps_raise rfl (takes_of rfl rfl rfl rfl) (pmk_own PySem.F.excBase_ValueError T.x_IR T.g_InvalidRow T.k_IR (raises_own T.s_IR T.t_IR) (by rfl)))) pss_nil)
      (pss_cons ps_never (pss_cons ps_never (pss_one ps_never)))), ?_⟩)
  · obtain ⟨u, v, rfl, _⟩ := h
    rfl
  · obtain ⟨u, v, rfl, n, hE⟩ := h
    rcases n with ⟨t, k, n1, n2⟩ | ⟨x, dx, fs, rfl, hx⟩ | ⟨l, xs, bs, rfl, S, J, hb, hl⟩
    · have kt := T.k_lt t k.2
      rw [kinds_lt n1 n2] at kt
      refine ⟨_, rfl, two_le, fun tp htp => ?_⟩
      have s1 := same_new (o := .tup [.ty "list", .ty "tuple"]) htp
      exact ⟨_, tp, _, _, _, _, rfl, upd_same, .cons (.ty _) (.cons (.ty _) .nil), (ki_same s1 k).1, kt, _, rfl, iteT (hE _ s1)⟩
    · refine ⟨_, rfl, two_le, fun tp htp => ?_⟩
      have s1 := same_new (o := .tup [.ty "list", .ty "tuple"]) htp
      exact ⟨_, tp, _, _, _, _, rfl, upd_same, .cons (.ty _) (.cons (.ty _) .nil), T.ins_Row.ty T.cl_Row (s1 _ _ hx), T.k_lt_r, _, rfl, iteT (hE _ s1)⟩
    · refine ⟨_, rfl, two_le, fun tp htp => ⟨_, tp, _, _, _, _, rfl, upd_same, .cons (.ty _) (.cons (.ty _) .nil), tyL (sqL_same S (same_new htp)), T.k_lt_l, _, rfl, iteF ?_⟩⟩
      have s1 := same_new (o := .tup [.ty "list", .ty "tuple"]) htp
      refine ⟨_, rfl, l, rfl, ⟨_, sqL_same S s1⟩, fun D hD => ?_⟩
      refine lc_list (xs := xs) (fun i H' => Same (upd H tp (.tup [.ty "list", .ty "tuple"])) H' ∧ H' D = some (.lst ((bs.take i).map V.bl))) ⟨same_new hD, upd_same⟩ (fun i H' _ p => sqL_same S (s1.trans p.1)) ?_ ?_
      · rintro i v H' hv ⟨sm, hd⟩
        obtain ⟨b, hq, jd⟩ := pGet J hv
        refine ⟨rfl, ?_⟩
        refine ⟨_, rfl, v, b, rfl, jd_same (s1.trans sm) jd, _, hd, ?_, same_mut sm hD, ?_⟩
        · rw [List.length_map, List.length_take]
          have := line22
          have := pLen J
          omega
        · rw [upd_same, take_bl hq]
      · rintro H2 ⟨sm2, hd2⟩
        rw [pLen J, List.take_length] at hd2
        refine ⟨D, bs, rfl, sqL_of hd2, _, rfl, ?_⟩
        rw [hb]
        exact iteT (hE _ (s1.trans sm2))
theorem ok_Row___init___C (T : Txt K mg) : FnOk P w K mg base (L2.CX P w) 4 (He.ma K (He.ga K "Row") "__init__") T.fd_Row___init__ ["self", "pairs"] (spNI K NoRt) := by
  refine T.F_Row___init__.ok sc_Row___init__ (fun vs H Q E h => ?_) (fun cdv A outer s H vs Q E hr h => ⟨_,
    (pss_cons (ps_if (PW.pt (pw_or (pt_not (pt_val (pe_callB call_isiT (by rfl) T.m_isinstance (by decide +kernel) (pa_cons (pv 1) (pa_cons (pe_tup (pa_cons (pe_bltn rfl T.m_list (v := .ty "list") (u := .type "list") (by decide +kernel) rfl) (pa_cons (pe_bltn rfl T.m_tuple (v := .ty "tuple") (u := .type "tuple") (by decide +kernel) rfl) pa_nil))) pa_nil))))) (pw_or1 (pt_not (pt_val (pe_callB (cr_all rfl) (by rfl) T.m_all (by decide +kernel) (pa_cons (pe_lc (own := [("pair", 5)]) rfl sc_Row___init__.nd (pi_tup (pv 1)) (blkOk_by (N := ["self", "pairs", "sums", "tick", "share", "pair"]) (sc := defScope s_Row___init__) (by decide +kernel)) (fun _ _ _ _ _ => (pg_name (i := 5) sc_Row___init__.nd rfl (.inl rfl) (hf := .inr rfl))) (fun _ _ _ _ _ => pts_nil) (fun _ _ _ _ _ => (pe_call (ok__is_pair_E T) (hr.mono (by decide)) (by rfl) T.g__is_pair T.F__is_pair.kp T.b__is_pair .nil pass0 (pa_cons (pv 5) pa_nil)))) pa_nil))))))) (pss_one (ps_raise rfl (takes_of rfl rfl rfl rfl) (pmk_own PySem.F.excBase_ValueError T.x_IR T.g_InvalidRow T.k_IR (raises_own T.s_IR T.t_IR) (by rfl)))) pss_nil)
      (pss_cons ps_never (pss_cons ps_never (pss_one ps_never)))), ?_⟩)
  · obtain ⟨u, v, rfl, _⟩ := h
    rfl
  · obtain ⟨u, v, rfl, ⟨l, xs, bs, rfl, S, J, hb, hl⟩, hE⟩ := h
    refine ⟨_, rfl, two_le, fun tp htp => ⟨_, tp, _, _, _, _, rfl, upd_same, .cons (.ty _) (.cons (.ty _) .nil), tyT (sqT_same S (same_new htp)), T.k_lt_t, _, rfl, iteF ?_⟩⟩
    have s1 := same_new (o := .tup [.ty "list", .ty "tuple"]) htp
    refine ⟨_, rfl, l, rfl, ⟨_, sqT_same S s1⟩, fun D hD => ?_⟩
    refine lc_tup (xs := xs) (fun i H' => Same (upd H tp (.tup [.ty "list", .ty "tuple"])) H' ∧ H' D = some (.lst ((bs.take i).map V.bl))) ⟨same_new hD, upd_same⟩ (fun i H' _ p => sqT_same S (s1.trans p.1)) ?_ ?_
    · rintro i v H' hv ⟨sm, hd⟩
      obtain ⟨b, hq, jd⟩ := pGet J hv
      refine ⟨rfl, ?_⟩
      refine ⟨_, rfl, v, b, rfl, jd_same (s1.trans sm) jd, _, hd, ?_, same_mut sm hD, ?_⟩
      · rw [List.length_map, List.length_take]
        have := line22
        have := pLen J
        omega
      · rw [upd_same, take_bl hq]
    · rintro H2 ⟨sm2, hd2⟩
      rw [pLen J, List.take_length] at hd2
      refine ⟨D, bs, rfl, sqL_of hd2, _, rfl, ?_⟩
      rw [hb]
      exact iteT (hE _ (s1.trans sm2))
/-! ### what the program tells: each def's promise, whether it refuses or not -/
abbrev spOr (sp sq : Sp) : Sp := fun vs H Q E => sp vs H Q E ∨ sq vs H Q E
theorem ok_Row___init___E (T : Txt K mg) : FnOk P w K mg base (L2.CX P w) 4 (He.ma K (He.ga K "Row") "__init__") T.fd_Row___init__ ["self", "pairs"] (spOr (spOr (spInit K) (spInitT K)) (spOr (spNI K NoRs) (spNI K NoRt))) :=
  fnOk_or (fnOk_or (fnOk_lift (ok_Row___init__ T)) (fnOk_lift (ok_Row___init___T T))) (fnOk_or (ok_Row___init___B T) (ok_Row___init___C T))
theorem ok_Row___add___E (T : Txt K mg) : FnOk P w K mg base (L2.CX P w) 6 (He.ma K (He.ga K "Row") "__add__") T.fd_Row___add__ ["self", "other"] (spOr (spAdd K) (spNR2 K)) := fnOk_or (fnOk_lift (ok_Row___add__ T)) ((ok_Row___add___B T).mono (by decide))
theorem ok_Row___mul___E (T : Txt K mg) : FnOk P w K mg base (L2.CX P w) 6 (He.ma K (He.ga K "Row") "__mul__") T.fd_Row___mul__ ["self", "other"] (spOr (spMul K) (spNR2 K)) := fnOk_or (fnOk_lift (ok_Row___mul__ T)) ((ok_Row___mul___B T).mono (by decide))
theorem ok_Row_moved_E (T : Txt K mg) : FnOk P w K mg base (L2.CX P w) 6 (He.ma K (He.ga K "Row") "moved") T.fd_Row_moved ["self", "ticks"] (spOr (spMoved K) (spNT2 K)) := fnOk_or (fnOk_lift (ok_Row_moved T)) ((ok_Row_moved_B T).mono (by decide))
theorem ok_Row_cut_E (T : Txt K mg) : FnOk P w K mg base (L2.CX P w) 6 (He.ma K (He.ga K "Row") "cut") T.fd_Row_cut ["self", "tick"] (spOr (spCut K) (spNT2 K)) := fnOk_or (fnOk_lift (ok_Row_cut T)) ((ok_Row_cut_B T).mono (by decide))
theorem ok_Row_at_E (T : Txt K mg) : FnOk P w K mg base (L2.CX P w) 4 (He.ma K (He.ga K "Row") "at") T.fd_Row_at ["self", "tick"] (spOr (spAt K) (spNT2 K)) := fnOk_or (fnOk_lift (ok_Row_at T)) (ok_Row_at_B T)
theorem ok_Row_up_to_E (T : Txt K mg) : FnOk P w K mg base (L2.CX P w) 4 (He.ma K (He.ga K "Row") "up_to") T.fd_Row_up_to ["self", "tick"] (spOr (spUpTo K) (spNT2 K)) := fnOk_or (fnOk_lift (ok_Row_up_to T)) (ok_Row_up_to_B T)
end
end L05
set_option maxRecDepth 100000
set_option maxHeartbeats 4000000
namespace L05
open PySem PySem.Spec PyProof.Rows L2 Q7
section
variable {P : Program} {w : World} {K : PySem.W.Frag} {mg : Str → Option Value} {base : Heap}
/-! ### told -/
theorem noRs_same {H H' : Hp} {v : V} (s : Same H H') (h : NoRs K H v) : NoRs K H' v := by
  rcases h with ⟨t, k, n⟩ | ⟨x, dx, fs, e, hx⟩ | ⟨l, xs, bs, e, S, J, r⟩
  · exact .inl ⟨t, ki_same s k, n⟩
  · exact .inr (.inl ⟨x, dx, fs, e, s _ _ hx⟩)
  · exact .inr (.inr ⟨l, xs, bs, e, Q7.sqL_same s S, jds_same s J, r⟩)
theorem noRt_same {H H' : Hp} {v : V} (s : Same H H') (h : NoRt K H v) : NoRt K H' v := by
  obtain ⟨l, xs, bs, e, S, J, r⟩ := h
  exact ⟨l, xs, bs, e, Q7.sqT_same s S, jds_same s J, r⟩
theorem made_same {H : Hp} {y dy : Addr} (hy : H y = none) (hd : H dy = none) (ne : dy ≠ y) : Same H (upd (upd H dy (.own y)) y (.ins (RC K) dy [])) := (same_new hd).trans (same_new (by rw [upd_ne ne.symm]; exact hy))
inductive Told (K : PySem.W.Frag) (H : Hp) : Int → V → V → Str → Prop where
  | no0 {d : Int} {r v : V} : d = 0 ∨ d = 1 → NoRs K H v ∨ NoRt K H v → Told K H d r v "row"
  | no2 {d : Int} {r v : V} {a : Rw} : d = 2 ∨ d = 3 → RA K H r a → NoRow K H v → Told K H d r v "row"
  | no4 {d : Int} {r v : V} {a : Rw} : d = 4 ∨ d = 5 ∨ d = 6 ∨ d = 7 → RA K H r a → NoTick K H v → Told K H d r v "tick"
  | fine0 {r : V} {l : Addr} : SqT K H l [] → Told K H 0 r (.ref l) "fine"
  | fine1 {r : V} {l : Addr} {xs : List V} {ps : Rw} : SqL K H l xs → PrsV K H xs ps → Gw ps → Told K H 1 r (.ref l) "fine"
  | fine2 {r v : V} {a b : Rw} : RA K H r a → RA K H v b → Gw (a ++ b) → Told K H 2 r v "fine"
  | fine3 {r v : V} {a b : Rw} : RA K H r a → RA K H v b → Gw a → Gw b → Gw (prod a b) → Told K H 3 r v "fine"
  | fine4 {d n : Int} {r : V} {a : Rw} : d = 4 ∨ d = 5 ∨ d = 6 ∨ d = 7 → RA K H r a → 0 ≤ n → Gw a → Gw (mv n a) → Told K H d r (.int n) "fine"
def spTold (K : PySem.W.Frag) : Sp := fun vs H Q _ => ∃ (d : Int) (u v : V) (r : Str), vs = [.int d, u, v] ∧ Told K H d u v r ∧ ∀ H', Same H H' → Q (.str r) H'
theorem iteE {k : Bool} {X Y : Prop} (e : k = false) (h : Y) : if k = true then X else Y := by subst e; exact iteF h
theorem five_le : 5 ≤ sizeLine := by decide
theorem three_le' : 3 ≤ sizeLine := by decide
theorem none_same {H H' : Hp} {p : Addr} (s : Same H H') (h : H' p = none) : H p = none := by
  cases e : H p with
  | none => rfl
  | some u => rw [s _ _ e] at h; cases h
theorem ok__law_told (T : Txt K mg) : FnOk P w K mg base CX0 7 (He.ga K "_law_told") T.fd__law_told ["door", "row", "thing"] (spTold K) := by
  refine T.F__law_told.ok sc__law_told (fun vs H Q E h => ?_) (fun cdv A outer s H vs Q E hr h => ⟨_, PSs.nox
    (pss_cons (ps_set (i := 3) sc__law_told.nd rfl (.inl rfl) pe_non)
      (pss_cons (ps_try_kept (i := 4) rfl rfl rfl sc__law_told.nd rfl rfl ⟨rfl, by decide, .inl T.g_PlanError⟩ (fun W pn xe tk _ => (pss_one (ps_if (pt_cmpR op_eq (pv 0) pe_int (nomark _)) (pss_one (ps_expr (pe_makeAt T.mk_Row (ok_Row___init___E T) (hr.mono (by decide)) (by rfl) T.g_Row T.b_Row___init__ .nil (fun σ => passAt tk σ) (pa_cons (pv 2) pa_nil)))) (pss_one (ps_if (pt_cmpR op_eq (pv 0) pe_int (nomark _)) (pss_one (ps_expr (pe_makeKAt T.mk_Row (ok_Row___init___E T) (hr.mono (by decide)) (by rfl) T.g_Row (T.kb_Row___init___pairs).choose_spec (fun σ => passAt tk σ) (pk_cons (pv 2) pk_nil)))) (pss_one (ps_if (pt_cmpR op_eq (pv 0) pe_int (nomark _)) (pss_one (ps_expr (show PE _ _ (tOpAt K (He.ga K "Row") _ (WE W) _ _) from pe_opAt T.first_Row T.bin_add T.me_Row___add__.at_ T.me_Row___add__.fn (ok_Row___add___E T) (hr.mono (by decide)) T.b_Row___add__ (fun σ => passAt tk σ) (pv 1) (pv 2)))) (pss_one (ps_if (pt_cmpR op_eq (pv 0) pe_int (nomark _)) (pss_one (ps_expr (show PE _ _ (tOpAt K (He.ga K "Row") _ (WE W) _ _) from pe_opAt T.first_Row T.bin_mul T.me_Row___mul__.at_ T.me_Row___mul__.fn (ok_Row___mul___E T) (hr.mono (by decide)) T.b_Row___mul__ (fun σ => passAt tk σ) (pv 1) (pv 2)))) (pss_one (ps_if (pt_cmpR op_eq (pv 0) pe_int (nomark _)) (pss_one (ps_expr (pe_methAt (pv 1) T.cl_Row T.me_Row_moved (ok_Row_moved_E T) (hr.mono (by decide)) T.b_Row_moved .nil (fun σ => passAt tk σ) (pa_cons (pv 2) pa_nil)))) (pss_one (ps_if (pt_cmpR op_eq (pv 0) pe_int (nomark _)) (pss_one (ps_expr (pe_methAt (pv 1) T.cl_Row T.me_Row_cut (ok_Row_cut_E T) (hr.mono (by decide)) T.b_Row_cut .nil (fun σ => passAt tk σ) (pa_cons (pv 2) pa_nil)))) (pss_one (ps_if (pt_cmpR op_eq (pv 0) pe_int (nomark _)) (pss_one (ps_expr (pe_methAt (pv 1) T.cl_Row T.me_Row_at (ok_Row_at_E T) (hr.mono (by decide)) T.b_Row_at .nil (fun σ => passAt tk σ) (pa_cons (pv 2) pa_nil)))) (pss_one (ps_expr (pe_methAt (pv 1) T.cl_Row T.me_Row_up_to (ok_Row_up_to_E T) (hr.mono (by decide)) T.b_Row_up_to .nil (fun σ => passAt tk σ) (pa_cons (pv 2) pa_nil))))))))))))))))))) (fun a oe cls d pn hz hf => (pss_one (ps_set (i := 3) sc__law_told.nd rfl (.inl rfl) (pv 4)))))
      (pss_cons (ps_if (pt_cmpR op_isN (pv 3) pe_non (nomark _)) (pss_one (ps_ret pe_str)) pss_nil)
      (pss_cons (ps_if (pt_val (pe_callB call_isKT (by rfl) T.m_isinstance (by decide +kernel) (pa_cons (pv 3) (pa_cons (pe_tup (pa_cons (pe_glob (v := V.ref (He.ga K "InvalidFraction")) rfl T.g_InvalidFraction rfl) (pa_cons (pe_glob (v := V.ref (He.ga K "InvalidName")) rfl T.g_InvalidName rfl) (pa_cons (pe_glob (v := V.ref (He.ga K "InvalidNumber")) rfl T.g_InvalidNumber rfl) (pa_cons (pe_glob (v := V.ref (He.ga K "InvalidTask")) rfl T.g_InvalidTask rfl) (pa_cons (pe_glob (v := V.ref (He.ga K "InvalidTasks")) rfl T.g_InvalidTasks rfl) pa_nil)))))) pa_nil)))) (pss_one (ps_ret pe_str)) pss_nil)
      (pss_cons (ps_set (i := 5) sc__law_told.nd rfl (.inl rfl) (pe_lst (pa_cons (pe_callB call_isK (by rfl) T.m_isinstance (by decide +kernel) (pa_cons (pv 3) (pa_cons (pe_glob (v := V.ref (He.ga K "InvalidRow")) rfl T.g_InvalidRow rfl) pa_nil))) (pa_cons (pe_callB call_isK (by rfl) T.m_isinstance (by decide +kernel) (pa_cons (pv 3) (pa_cons (pe_glob (v := V.ref (He.ga K "InvalidTick")) rfl T.g_InvalidTick rfl) pa_nil))) (pa_cons (pe_callB call_isK (by rfl) T.m_isinstance (by decide +kernel) (pa_cons (pv 3) (pa_cons (pe_bltn rfl T.m_ValueError (v := .ty "ValueError") (u := .type "ValueError") (by decide +kernel) rfl) pa_nil))) pa_nil)))))
      (pss_one (ps_ret (pe_getB (hu_of hr) (pe_dispB (pps_cons (pe_tup (pa_cons pe_bl (pa_cons pe_bl (pa_cons pe_bl pa_nil)))) pe_str (pps_cons (pe_tup (pa_cons pe_bl (pa_cons pe_bl (pa_cons pe_bl pa_nil)))) pe_str pps_nil)) hr.units0) (pe_callTy call_tuple_of (by rfl) T.m_tuple (by decide +kernel) (pa_cons (pv 5) pa_nil)) pe_str ⟨by rfl, by rfl, by rfl, by rfl⟩)))))))), ?_⟩)
  · obtain ⟨d, u, v, r, rfl, _⟩ := h
    rfl
  · obtain ⟨d, u, v, r, rfl, ht, hQ⟩ := h
    cases ht with
    | no0 hd n =>
      rcases hd with rfl | rfl
      · refine ⟨_, rfl, rfl, _, rfl, iteT ⟨_, rfl, fun y dy hy hdy ne => .inr ?_⟩⟩
        have s0 := made_same (K := K) hy hdy ne
        generalize upd (upd H dy (.own y)) y (.ins (RC K) dy []) = H0 at *
        have key : ∀ (Q' : VK) (E : XK), (∀ H', Same H H' → E (.ref (IR K)) none H') → spNI K NoRs [.ref y, v] H0 Q' E ∨ spNI K NoRt [.ref y, v] H0 Q' E := by
          intro Q' E hE
          rcases n with n | n
          · exact .inl ⟨_, _, rfl, noRs_same s0 n, fun H' s => hE H' (s0.trans s)⟩
          · exact .inr ⟨_, _, rfl, noRt_same s0 n, fun H' s => hE H' (s0.trans s)⟩
        refine key _ _ fun H1 s1 => ⟨T.m_IR, _, rfl, rfl, fun x hx => ?_⟩
        have k1 := s1.trans (same_new (o := ExK (IR K) x) hx)
        have y1 := upd_same (H := H1) (a := x) (o := ExK (IR K) x)
        refine ⟨_, rfl, _, rfl, rfl, _, rfl, iteE (by simp) ⟨_, rfl, five_le, fun t ht => ?_⟩⟩
        generalize upd H1 x (ExK (IR K) x) = H2 at *
        have k2 := same_new (o := .tup [.ref (He.ga K "InvalidFraction"), .ref (He.ga K "InvalidName"), .ref (He.ga K "InvalidNumber"), .ref (He.ga K "InvalidTask"), .ref (He.ga K "InvalidTasks")]) ht
        have y2 := k2 _ _ y1
        refine ⟨x, IR K, t, _, _, _, rfl, y2, T.e_IR, upd_same, .cons (.own _) (.cons (.own _) (.cons (.own _) (.cons (.own _) (.cons (.own _) .nil)))), T.i_A_IR, _, rfl, iteF ?_⟩
        replace k1 := k1.trans k2
        generalize upd H2 t (.tup [.ref (He.ga K "InvalidFraction"), .ref (He.ga K "InvalidName"), .ref (He.ga K "InvalidNumber"), .ref (He.ga K "InvalidTask"), .ref (He.ga K "InvalidTasks")]) = H3 at *
        refine ⟨_, rfl, x, IR K, _, _, _, rfl, y2, T.e_IR, .own _, T.i_R_IR, _, rfl, x, IR K, _, _, _, rfl, y2, T.e_IR, .own _, T.i_T_IR, _, rfl, x, IR K, _, _, _, rfl, y2, T.e_IR, .ty _, T.i_V_IR, three_le', fun l hl => ?_⟩
        have k3 := k1.trans (same_new (o := .lst [.bl true, .bl false, .bl true]) hl)
        have y3 := upd_same (H := H3) (a := l) (o := .lst [.bl true, .bl false, .bl true])
        generalize upd H3 l (.lst [.bl true, .bl false, .bl true]) = H4 at *
        refine fun d hd => ⟨three_le', fun t1 h1 => ⟨three_le', fun t2 h2 => ?_⟩⟩
        have q1 := same_new (o := .dK []) hd
        have q2 := same_new (o := .tup [.bl true, .bl false, .bl true]) h1
        have q3 := same_new (o := .tup [.bl false, .bl true, .bl true]) h2
        have z0 := q3 _ _ (q2 _ _ (upd_same (H := H4) (a := d) (o := .dK [])))
        have z1 := q3 _ _ (upd_same (H := upd H4 d (.dK [])) (a := t1) (o := .tup [.bl true, .bl false, .bl true]))
        have z2 := upd_same (H := upd (upd H4 d (.dK [])) t1 (.tup [.bl true, .bl false, .bl true])) (a := t2) (o := .tup [.bl false, .bl true, .bl true])
        have k4 := k3.trans ((q1.trans q2).trans q3)
        have y4 := ((q1.trans q2).trans q3) _ _ y3
        have dn : H d = none := none_same k3 hd
        have d1 : t1 ≠ d := fun e => by subst e; rw [upd_same] at h1; cases h1
        have d2 : t2 ≠ d := fun e => by subst e; rw [q2 _ _ (upd_same (H := H4) (a := t2) (o := .dK []))] at h2; cases h2
        have dl : l ≠ d := fun e => by subst e; rw [hd] at y3; cases y3
        have s4 : ∀ o, Same H (upd (upd (upd (upd H4 d (.dK [])) t1 (.tup [.bl true, .bl false, .bl true])) t2 (.tup [.bl false, .bl true, .bl true])) d o) := fun o => same_mut k4 dn
        generalize upd (upd (upd H4 d (.dK [])) t1 (.tup [.bl true, .bl false, .bl true])) t2 (.tup [.bl false, .bl true, .bl true]) = H5 at *
        clear q1 q2 q3 h1 h2 hd k3 k4 y3
        refine ⟨z0, [([true, false, true], t1, "row"), ([false, true, true], t2, "tick")], rfl, fun p hp => ?_, (by show ([[true, false, true], [false, true, true]] : List (List Bool)).Nodup; decide), (by show (2 : Nat) ≤ 15; decide), fun nd => ?_⟩
        · simp only [List.mem_cons, List.not_mem_nil, or_false] at hp
          rcases hp with rfl | rfl
          · exact z1
          · exact z2
        replace s4 := s4 (DTb P w d [([true, false, true], t1, "row"), ([false, true, true], t2, "tick")])
        have w1 := upd_same (H := H5) (a := d) (o := DTb P w d [([true, false, true], t1, "row"), ([false, true, true], t2, "tick")])
        have z1' : upd H5 d (DTb P w d [([true, false, true], t1, "row"), ([false, true, true], t2, "tick")]) t1 = some (.tup [.bl true, .bl false, .bl true]) := by rw [upd_ne d1]; exact z1
        have z2' : upd H5 d (DTb P w d [([true, false, true], t1, "row"), ([false, true, true], t2, "tick")]) t2 = some (.tup [.bl false, .bl true, .bl true]) := by rw [upd_ne d2]; exact z2
        have y5 : upd H5 d (DTb P w d [([true, false, true], t1, "row"), ([false, true, true], t2, "tick")]) l = some (.lst [.bl true, .bl false, .bl true]) := by rw [upd_ne dl]; exact y4
        refine ⟨d, _, rfl, nd, w1, _, rfl, l, _, rfl, .inl ⟨sqL_of y5, fun t3 h3 => ?_⟩⟩
        have k5 := same_new (o := .tup [.bl true, .bl false, .bl true]) h3
        refine ⟨k5 _ _ w1, fun p hp => ?_, (by show ([[true, false, true], [false, true, true]] : List (List Bool)).Nodup; decide), t3, [true, false, true], "odd", rfl, rfl, upd_same, hQ _ (s4.trans k5)⟩
        simp only [List.mem_cons, List.not_mem_nil, or_false] at hp
        rcases hp with rfl | rfl
        · exact k5 _ _ z1'
        · exact k5 _ _ z2'
      · refine ⟨_, rfl, rfl, _, rfl, iteF ⟨_, rfl, rfl, _, rfl, iteT ⟨_, rfl, rfl, fun y dy hy hdy ne => ⟨[v], rfl, .inr ?_⟩⟩⟩⟩
        have s0 := made_same (K := K) hy hdy ne
        generalize upd (upd H dy (.own y)) y (.ins (RC K) dy []) = H0 at *
        have key : ∀ (Q' : VK) (E : XK), (∀ H', Same H H' → E (.ref (IR K)) none H') → spNI K NoRs [.ref y, v] H0 Q' E ∨ spNI K NoRt [.ref y, v] H0 Q' E := by
          intro Q' E hE
          rcases n with n | n
          · exact .inl ⟨_, _, rfl, noRs_same s0 n, fun H' s => hE H' (s0.trans s)⟩
          · exact .inr ⟨_, _, rfl, noRt_same s0 n, fun H' s => hE H' (s0.trans s)⟩
        refine key _ _ fun H1 s1 => ⟨T.m_IR, _, rfl, rfl, fun x hx => ?_⟩
        have k1 := s1.trans (same_new (o := ExK (IR K) x) hx)
        have y1 := upd_same (H := H1) (a := x) (o := ExK (IR K) x)
        refine ⟨_, rfl, _, rfl, rfl, _, rfl, iteE (by simp) ⟨_, rfl, five_le, fun t ht => ?_⟩⟩
        generalize upd H1 x (ExK (IR K) x) = H2 at *
        have k2 := same_new (o := .tup [.ref (He.ga K "InvalidFraction"), .ref (He.ga K "InvalidName"), .ref (He.ga K "InvalidNumber"), .ref (He.ga K "InvalidTask"), .ref (He.ga K "InvalidTasks")]) ht
        have y2 := k2 _ _ y1
        refine ⟨x, IR K, t, _, _, _, rfl, y2, T.e_IR, upd_same, .cons (.own _) (.cons (.own _) (.cons (.own _) (.cons (.own _) (.cons (.own _) .nil)))), T.i_A_IR, _, rfl, iteF ?_⟩
        replace k1 := k1.trans k2
        generalize upd H2 t (.tup [.ref (He.ga K "InvalidFraction"), .ref (He.ga K "InvalidName"), .ref (He.ga K "InvalidNumber"), .ref (He.ga K "InvalidTask"), .ref (He.ga K "InvalidTasks")]) = H3 at *
        refine ⟨_, rfl, x, IR K, _, _, _, rfl, y2, T.e_IR, .own _, T.i_R_IR, _, rfl, x, IR K, _, _, _, rfl, y2, T.e_IR, .own _, T.i_T_IR, _, rfl, x, IR K, _, _, _, rfl, y2, T.e_IR, .ty _, T.i_V_IR, three_le', fun l hl => ?_⟩
        have k3 := k1.trans (same_new (o := .lst [.bl true, .bl false, .bl true]) hl)
        have y3 := upd_same (H := H3) (a := l) (o := .lst [.bl true, .bl false, .bl true])
        generalize upd H3 l (.lst [.bl true, .bl false, .bl true]) = H4 at *
        refine fun d hd => ⟨three_le', fun t1 h1 => ⟨three_le', fun t2 h2 => ?_⟩⟩
        have q1 := same_new (o := .dK []) hd
        have q2 := same_new (o := .tup [.bl true, .bl false, .bl true]) h1
        have q3 := same_new (o := .tup [.bl false, .bl true, .bl true]) h2
        have z0 := q3 _ _ (q2 _ _ (upd_same (H := H4) (a := d) (o := .dK [])))
        have z1 := q3 _ _ (upd_same (H := upd H4 d (.dK [])) (a := t1) (o := .tup [.bl true, .bl false, .bl true]))
        have z2 := upd_same (H := upd (upd H4 d (.dK [])) t1 (.tup [.bl true, .bl false, .bl true])) (a := t2) (o := .tup [.bl false, .bl true, .bl true])
        have k4 := k3.trans ((q1.trans q2).trans q3)
        have y4 := ((q1.trans q2).trans q3) _ _ y3
        have dn : H d = none := none_same k3 hd
        have d1 : t1 ≠ d := fun e => by subst e; rw [upd_same] at h1; cases h1
        have d2 : t2 ≠ d := fun e => by subst e; rw [q2 _ _ (upd_same (H := H4) (a := t2) (o := .dK []))] at h2; cases h2
        have dl : l ≠ d := fun e => by subst e; rw [hd] at y3; cases y3
        have s4 : ∀ o, Same H (upd (upd (upd (upd H4 d (.dK [])) t1 (.tup [.bl true, .bl false, .bl true])) t2 (.tup [.bl false, .bl true, .bl true])) d o) := fun o => same_mut k4 dn
        generalize upd (upd (upd H4 d (.dK [])) t1 (.tup [.bl true, .bl false, .bl true])) t2 (.tup [.bl false, .bl true, .bl true]) = H5 at *
        clear q1 q2 q3 h1 h2 hd k3 k4 y3
        refine ⟨z0, [([true, false, true], t1, "row"), ([false, true, true], t2, "tick")], rfl, fun p hp => ?_, (by show ([[true, false, true], [false, true, true]] : List (List Bool)).Nodup; decide), (by show (2 : Nat) ≤ 15; decide), fun nd => ?_⟩
        · simp only [List.mem_cons, List.not_mem_nil, or_false] at hp
          rcases hp with rfl | rfl
          · exact z1
          · exact z2
        replace s4 := s4 (DTb P w d [([true, false, true], t1, "row"), ([false, true, true], t2, "tick")])
        have w1 := upd_same (H := H5) (a := d) (o := DTb P w d [([true, false, true], t1, "row"), ([false, true, true], t2, "tick")])
        have z1' : upd H5 d (DTb P w d [([true, false, true], t1, "row"), ([false, true, true], t2, "tick")]) t1 = some (.tup [.bl true, .bl false, .bl true]) := by rw [upd_ne d1]; exact z1
        have z2' : upd H5 d (DTb P w d [([true, false, true], t1, "row"), ([false, true, true], t2, "tick")]) t2 = some (.tup [.bl false, .bl true, .bl true]) := by rw [upd_ne d2]; exact z2
        have y5 : upd H5 d (DTb P w d [([true, false, true], t1, "row"), ([false, true, true], t2, "tick")]) l = some (.lst [.bl true, .bl false, .bl true]) := by rw [upd_ne dl]; exact y4
        refine ⟨d, _, rfl, nd, w1, _, rfl, l, _, rfl, .inl ⟨sqL_of y5, fun t3 h3 => ?_⟩⟩
        have k5 := same_new (o := .tup [.bl true, .bl false, .bl true]) h3
        refine ⟨k5 _ _ w1, fun p hp => ?_, (by show ([[true, false, true], [false, true, true]] : List (List Bool)).Nodup; decide), t3, [true, false, true], "odd", rfl, rfl, upd_same, hQ _ (s4.trans k5)⟩
        simp only [List.mem_cons, List.not_mem_nil, or_false] at hp
        rcases hp with rfl | rfl
        · exact k5 _ _ z1'
        · exact k5 _ _ z2'
    | no2 hd R n =>
      have s1 := Same.refl H
      obtain ⟨rx, rdx, rd, rks, rfl, hx1, hd1, hK, nf⟩ := id R
      rcases hd with rfl | rfl
      · refine ⟨_, rfl, rfl, _, rfl, iteF ⟨_, rfl, rfl, _, rfl, iteF ⟨_, rfl, rfl, _, rfl, iteT ⟨_, rfl, _, rfl, rx, rdx, _, rfl, hx1, .inl n, .inr ⟨_, _, rfl, n, T.m_IR, _, rfl, rfl, fun x hx => ?_⟩⟩⟩⟩⟩
        have k1 := s1.trans (same_new (o := ExK (IR K) x) hx)
        have y1 := upd_same (H := H) (a := x) (o := ExK (IR K) x)
        refine ⟨_, rfl, _, rfl, rfl, _, rfl, iteE (by simp) ⟨_, rfl, five_le, fun t ht => ?_⟩⟩
        generalize upd H x (ExK (IR K) x) = H2 at *
        have k2 := same_new (o := .tup [.ref (He.ga K "InvalidFraction"), .ref (He.ga K "InvalidName"), .ref (He.ga K "InvalidNumber"), .ref (He.ga K "InvalidTask"), .ref (He.ga K "InvalidTasks")]) ht
        have y2 := k2 _ _ y1
        refine ⟨x, IR K, t, _, _, _, rfl, y2, T.e_IR, upd_same, .cons (.own _) (.cons (.own _) (.cons (.own _) (.cons (.own _) (.cons (.own _) .nil)))), T.i_A_IR, _, rfl, iteF ?_⟩
        replace k1 := k1.trans k2
        generalize upd H2 t (.tup [.ref (He.ga K "InvalidFraction"), .ref (He.ga K "InvalidName"), .ref (He.ga K "InvalidNumber"), .ref (He.ga K "InvalidTask"), .ref (He.ga K "InvalidTasks")]) = H3 at *
        refine ⟨_, rfl, x, IR K, _, _, _, rfl, y2, T.e_IR, .own _, T.i_R_IR, _, rfl, x, IR K, _, _, _, rfl, y2, T.e_IR, .own _, T.i_T_IR, _, rfl, x, IR K, _, _, _, rfl, y2, T.e_IR, .ty _, T.i_V_IR, three_le', fun l hl => ?_⟩
        have k3 := k1.trans (same_new (o := .lst [.bl true, .bl false, .bl true]) hl)
        have y3 := upd_same (H := H3) (a := l) (o := .lst [.bl true, .bl false, .bl true])
        generalize upd H3 l (.lst [.bl true, .bl false, .bl true]) = H4 at *
        refine fun d hd => ⟨three_le', fun t1 h1 => ⟨three_le', fun t2 h2 => ?_⟩⟩
        have q1 := same_new (o := .dK []) hd
        have q2 := same_new (o := .tup [.bl true, .bl false, .bl true]) h1
        have q3 := same_new (o := .tup [.bl false, .bl true, .bl true]) h2
        have z0 := q3 _ _ (q2 _ _ (upd_same (H := H4) (a := d) (o := .dK [])))
        have z1 := q3 _ _ (upd_same (H := upd H4 d (.dK [])) (a := t1) (o := .tup [.bl true, .bl false, .bl true]))
        have z2 := upd_same (H := upd (upd H4 d (.dK [])) t1 (.tup [.bl true, .bl false, .bl true])) (a := t2) (o := .tup [.bl false, .bl true, .bl true])
        have k4 := k3.trans ((q1.trans q2).trans q3)
        have y4 := ((q1.trans q2).trans q3) _ _ y3
        have dn : H d = none := none_same k3 hd
        have d1 : t1 ≠ d := fun e => by subst e; rw [upd_same] at h1; cases h1
        have d2 : t2 ≠ d := fun e => by subst e; rw [q2 _ _ (upd_same (H := H4) (a := t2) (o := .dK []))] at h2; cases h2
        have dl : l ≠ d := fun e => by subst e; rw [hd] at y3; cases y3
        have s4 : ∀ o, Same H (upd (upd (upd (upd H4 d (.dK [])) t1 (.tup [.bl true, .bl false, .bl true])) t2 (.tup [.bl false, .bl true, .bl true])) d o) := fun o => same_mut k4 dn
        generalize upd (upd (upd H4 d (.dK [])) t1 (.tup [.bl true, .bl false, .bl true])) t2 (.tup [.bl false, .bl true, .bl true]) = H5 at *
        clear q1 q2 q3 h1 h2 hd k3 k4 y3
        refine ⟨z0, [([true, false, true], t1, "row"), ([false, true, true], t2, "tick")], rfl, fun p hp => ?_, (by show ([[true, false, true], [false, true, true]] : List (List Bool)).Nodup; decide), (by show (2 : Nat) ≤ 15; decide), fun nd => ?_⟩
        · simp only [List.mem_cons, List.not_mem_nil, or_false] at hp
          rcases hp with rfl | rfl
          · exact z1
          · exact z2
        replace s4 := s4 (DTb P w d [([true, false, true], t1, "row"), ([false, true, true], t2, "tick")])
        have w1 := upd_same (H := H5) (a := d) (o := DTb P w d [([true, false, true], t1, "row"), ([false, true, true], t2, "tick")])
        have z1' : upd H5 d (DTb P w d [([true, false, true], t1, "row"), ([false, true, true], t2, "tick")]) t1 = some (.tup [.bl true, .bl false, .bl true]) := by rw [upd_ne d1]; exact z1
        have z2' : upd H5 d (DTb P w d [([true, false, true], t1, "row"), ([false, true, true], t2, "tick")]) t2 = some (.tup [.bl false, .bl true, .bl true]) := by rw [upd_ne d2]; exact z2
        have y5 : upd H5 d (DTb P w d [([true, false, true], t1, "row"), ([false, true, true], t2, "tick")]) l = some (.lst [.bl true, .bl false, .bl true]) := by rw [upd_ne dl]; exact y4
        refine ⟨d, _, rfl, nd, w1, _, rfl, l, _, rfl, .inl ⟨sqL_of y5, fun t3 h3 => ?_⟩⟩
        have k5 := same_new (o := .tup [.bl true, .bl false, .bl true]) h3
        refine ⟨k5 _ _ w1, fun p hp => ?_, (by show ([[true, false, true], [false, true, true]] : List (List Bool)).Nodup; decide), t3, [true, false, true], "odd", rfl, rfl, upd_same, hQ _ (s4.trans k5)⟩
        simp only [List.mem_cons, List.not_mem_nil, or_false] at hp
        rcases hp with rfl | rfl
        · exact k5 _ _ z1'
        · exact k5 _ _ z2'
      · refine ⟨_, rfl, rfl, _, rfl, iteF ⟨_, rfl, rfl, _, rfl, iteF ⟨_, rfl, rfl, _, rfl, iteF ⟨_, rfl, rfl, _, rfl, iteT ⟨_, rfl, _, rfl, rx, rdx, _, rfl, hx1, .inl n, .inr ⟨_, _, rfl, n, T.m_IR, _, rfl, rfl, fun x hx => ?_⟩⟩⟩⟩⟩⟩
        have k1 := s1.trans (same_new (o := ExK (IR K) x) hx)
        have y1 := upd_same (H := H) (a := x) (o := ExK (IR K) x)
        refine ⟨_, rfl, _, rfl, rfl, _, rfl, iteE (by simp) ⟨_, rfl, five_le, fun t ht => ?_⟩⟩
        generalize upd H x (ExK (IR K) x) = H2 at *
        have k2 := same_new (o := .tup [.ref (He.ga K "InvalidFraction"), .ref (He.ga K "InvalidName"), .ref (He.ga K "InvalidNumber"), .ref (He.ga K "InvalidTask"), .ref (He.ga K "InvalidTasks")]) ht
        have y2 := k2 _ _ y1
        refine ⟨x, IR K, t, _, _, _, rfl, y2, T.e_IR, upd_same, .cons (.own _) (.cons (.own _) (.cons (.own _) (.cons (.own _) (.cons (.own _) .nil)))), T.i_A_IR, _, rfl, iteF ?_⟩
        replace k1 := k1.trans k2
        generalize upd H2 t (.tup [.ref (He.ga K "InvalidFraction"), .ref (He.ga K "InvalidName"), .ref (He.ga K "InvalidNumber"), .ref (He.ga K "InvalidTask"), .ref (He.ga K "InvalidTasks")]) = H3 at *
        refine ⟨_, rfl, x, IR K, _, _, _, rfl, y2, T.e_IR, .own _, T.i_R_IR, _, rfl, x, IR K, _, _, _, rfl, y2, T.e_IR, .own _, T.i_T_IR, _, rfl, x, IR K, _, _, _, rfl, y2, T.e_IR, .ty _, T.i_V_IR, three_le', fun l hl => ?_⟩
        have k3 := k1.trans (same_new (o := .lst [.bl true, .bl false, .bl true]) hl)
        have y3 := upd_same (H := H3) (a := l) (o := .lst [.bl true, .bl false, .bl true])
        generalize upd H3 l (.lst [.bl true, .bl false, .bl true]) = H4 at *
        refine fun d hd => ⟨three_le', fun t1 h1 => ⟨three_le', fun t2 h2 => ?_⟩⟩
        have q1 := same_new (o := .dK []) hd
        have q2 := same_new (o := .tup [.bl true, .bl false, .bl true]) h1
        have q3 := same_new (o := .tup [.bl false, .bl true, .bl true]) h2
        have z0 := q3 _ _ (q2 _ _ (upd_same (H := H4) (a := d) (o := .dK [])))
        have z1 := q3 _ _ (upd_same (H := upd H4 d (.dK [])) (a := t1) (o := .tup [.bl true, .bl false, .bl true]))
        have z2 := upd_same (H := upd (upd H4 d (.dK [])) t1 (.tup [.bl true, .bl false, .bl true])) (a := t2) (o := .tup [.bl false, .bl true, .bl true])
        have k4 := k3.trans ((q1.trans q2).trans q3)
        have y4 := ((q1.trans q2).trans q3) _ _ y3
        have dn : H d = none := none_same k3 hd
        have d1 : t1 ≠ d := fun e => by subst e; rw [upd_same] at h1; cases h1
        have d2 : t2 ≠ d := fun e => by subst e; rw [q2 _ _ (upd_same (H := H4) (a := t2) (o := .dK []))] at h2; cases h2
        have dl : l ≠ d := fun e => by subst e; rw [hd] at y3; cases y3
        have s4 : ∀ o, Same H (upd (upd (upd (upd H4 d (.dK [])) t1 (.tup [.bl true, .bl false, .bl true])) t2 (.tup [.bl false, .bl true, .bl true])) d o) := fun o => same_mut k4 dn
        generalize upd (upd (upd H4 d (.dK [])) t1 (.tup [.bl true, .bl false, .bl true])) t2 (.tup [.bl false, .bl true, .bl true]) = H5 at *
        clear q1 q2 q3 h1 h2 hd k3 k4 y3
        refine ⟨z0, [([true, false, true], t1, "row"), ([false, true, true], t2, "tick")], rfl, fun p hp => ?_, (by show ([[true, false, true], [false, true, true]] : List (List Bool)).Nodup; decide), (by show (2 : Nat) ≤ 15; decide), fun nd => ?_⟩
        · simp only [List.mem_cons, List.not_mem_nil, or_false] at hp
          rcases hp with rfl | rfl
          · exact z1
          · exact z2
        replace s4 := s4 (DTb P w d [([true, false, true], t1, "row"), ([false, true, true], t2, "tick")])
        have w1 := upd_same (H := H5) (a := d) (o := DTb P w d [([true, false, true], t1, "row"), ([false, true, true], t2, "tick")])
        have z1' : upd H5 d (DTb P w d [([true, false, true], t1, "row"), ([false, true, true], t2, "tick")]) t1 = some (.tup [.bl true, .bl false, .bl true]) := by rw [upd_ne d1]; exact z1
        have z2' : upd H5 d (DTb P w d [([true, false, true], t1, "row"), ([false, true, true], t2, "tick")]) t2 = some (.tup [.bl false, .bl true, .bl true]) := by rw [upd_ne d2]; exact z2
        have y5 : upd H5 d (DTb P w d [([true, false, true], t1, "row"), ([false, true, true], t2, "tick")]) l = some (.lst [.bl true, .bl false, .bl true]) := by rw [upd_ne dl]; exact y4
        refine ⟨d, _, rfl, nd, w1, _, rfl, l, _, rfl, .inl ⟨sqL_of y5, fun t3 h3 => ?_⟩⟩
        have k5 := same_new (o := .tup [.bl true, .bl false, .bl true]) h3
        refine ⟨k5 _ _ w1, fun p hp => ?_, (by show ([[true, false, true], [false, true, true]] : List (List Bool)).Nodup; decide), t3, [true, false, true], "odd", rfl, rfl, upd_same, hQ _ (s4.trans k5)⟩
        simp only [List.mem_cons, List.not_mem_nil, or_false] at hp
        rcases hp with rfl | rfl
        · exact k5 _ _ z1'
        · exact k5 _ _ z2'
    | no4 hd R n =>
      have s1 := Same.refl H
      obtain ⟨rx, rdx, rd, rks, rfl, hx1, hd1, hK, nf⟩ := id R
      rcases hd with rfl | rfl | rfl | rfl
      · refine ⟨_, rfl, rfl, _, rfl, iteF ⟨_, rfl, rfl, _, rfl, iteF ⟨_, rfl, rfl, _, rfl, iteF ⟨_, rfl, rfl, _, rfl, iteF ⟨_, rfl, rfl, _, rfl, iteT ⟨_, rfl, rx, rdx, _, rfl, hx1, rfl, _, rfl, .inr ⟨_, _, rfl, n, T.m_IT, _, rfl, rfl, fun x hx => ?_⟩⟩⟩⟩⟩⟩⟩
        have k1 := s1.trans (same_new (o := ExK (IT K) x) hx)
        have y1 := upd_same (H := H) (a := x) (o := ExK (IT K) x)
        refine ⟨_, rfl, _, rfl, rfl, _, rfl, iteE (by simp) ⟨_, rfl, five_le, fun t ht => ?_⟩⟩
        generalize upd H x (ExK (IT K) x) = H2 at *
        have k2 := same_new (o := .tup [.ref (He.ga K "InvalidFraction"), .ref (He.ga K "InvalidName"), .ref (He.ga K "InvalidNumber"), .ref (He.ga K "InvalidTask"), .ref (He.ga K "InvalidTasks")]) ht
        have y2 := k2 _ _ y1
        refine ⟨x, IT K, t, _, _, _, rfl, y2, T.e_IT, upd_same, .cons (.own _) (.cons (.own _) (.cons (.own _) (.cons (.own _) (.cons (.own _) .nil)))), T.i_A_IT, _, rfl, iteF ?_⟩
        replace k1 := k1.trans k2
        generalize upd H2 t (.tup [.ref (He.ga K "InvalidFraction"), .ref (He.ga K "InvalidName"), .ref (He.ga K "InvalidNumber"), .ref (He.ga K "InvalidTask"), .ref (He.ga K "InvalidTasks")]) = H3 at *
        refine ⟨_, rfl, x, IT K, _, _, _, rfl, y2, T.e_IT, .own _, T.i_R_IT, _, rfl, x, IT K, _, _, _, rfl, y2, T.e_IT, .own _, T.i_T_IT, _, rfl, x, IT K, _, _, _, rfl, y2, T.e_IT, .ty _, T.i_V_IT, three_le', fun l hl => ?_⟩
        have k3 := k1.trans (same_new (o := .lst [.bl false, .bl true, .bl true]) hl)
        have y3 := upd_same (H := H3) (a := l) (o := .lst [.bl false, .bl true, .bl true])
        generalize upd H3 l (.lst [.bl false, .bl true, .bl true]) = H4 at *
        refine fun d hd => ⟨three_le', fun t1 h1 => ⟨three_le', fun t2 h2 => ?_⟩⟩
        have q1 := same_new (o := .dK []) hd
        have q2 := same_new (o := .tup [.bl true, .bl false, .bl true]) h1
        have q3 := same_new (o := .tup [.bl false, .bl true, .bl true]) h2
        have z0 := q3 _ _ (q2 _ _ (upd_same (H := H4) (a := d) (o := .dK [])))
        have z1 := q3 _ _ (upd_same (H := upd H4 d (.dK [])) (a := t1) (o := .tup [.bl true, .bl false, .bl true]))
        have z2 := upd_same (H := upd (upd H4 d (.dK [])) t1 (.tup [.bl true, .bl false, .bl true])) (a := t2) (o := .tup [.bl false, .bl true, .bl true])
        have k4 := k3.trans ((q1.trans q2).trans q3)
        have y4 := ((q1.trans q2).trans q3) _ _ y3
        have dn : H d = none := none_same k3 hd
        have d1 : t1 ≠ d := fun e => by subst e; rw [upd_same] at h1; cases h1
        have d2 : t2 ≠ d := fun e => by subst e; rw [q2 _ _ (upd_same (H := H4) (a := t2) (o := .dK []))] at h2; cases h2
        have dl : l ≠ d := fun e => by subst e; rw [hd] at y3; cases y3
        have s4 : ∀ o, Same H (upd (upd (upd (upd H4 d (.dK [])) t1 (.tup [.bl true, .bl false, .bl true])) t2 (.tup [.bl false, .bl true, .bl true])) d o) := fun o => same_mut k4 dn
        generalize upd (upd (upd H4 d (.dK [])) t1 (.tup [.bl true, .bl false, .bl true])) t2 (.tup [.bl false, .bl true, .bl true]) = H5 at *
        clear q1 q2 q3 h1 h2 hd k3 k4 y3
        refine ⟨z0, [([true, false, true], t1, "row"), ([false, true, true], t2, "tick")], rfl, fun p hp => ?_, (by show ([[true, false, true], [false, true, true]] : List (List Bool)).Nodup; decide), (by show (2 : Nat) ≤ 15; decide), fun nd => ?_⟩
        · simp only [List.mem_cons, List.not_mem_nil, or_false] at hp
          rcases hp with rfl | rfl
          · exact z1
          · exact z2
        replace s4 := s4 (DTb P w d [([true, false, true], t1, "row"), ([false, true, true], t2, "tick")])
        have w1 := upd_same (H := H5) (a := d) (o := DTb P w d [([true, false, true], t1, "row"), ([false, true, true], t2, "tick")])
        have z1' : upd H5 d (DTb P w d [([true, false, true], t1, "row"), ([false, true, true], t2, "tick")]) t1 = some (.tup [.bl true, .bl false, .bl true]) := by rw [upd_ne d1]; exact z1
        have z2' : upd H5 d (DTb P w d [([true, false, true], t1, "row"), ([false, true, true], t2, "tick")]) t2 = some (.tup [.bl false, .bl true, .bl true]) := by rw [upd_ne d2]; exact z2
        have y5 : upd H5 d (DTb P w d [([true, false, true], t1, "row"), ([false, true, true], t2, "tick")]) l = some (.lst [.bl false, .bl true, .bl true]) := by rw [upd_ne dl]; exact y4
        refine ⟨d, _, rfl, nd, w1, _, rfl, l, _, rfl, .inl ⟨sqL_of y5, fun t3 h3 => ?_⟩⟩
        have k5 := same_new (o := .tup [.bl false, .bl true, .bl true]) h3
        refine ⟨k5 _ _ w1, fun p hp => ?_, (by show ([[true, false, true], [false, true, true]] : List (List Bool)).Nodup; decide), t3, [false, true, true], "odd", rfl, rfl, upd_same, hQ _ (s4.trans k5)⟩
        simp only [List.mem_cons, List.not_mem_nil, or_false] at hp
        rcases hp with rfl | rfl
        · exact k5 _ _ z1'
        · exact k5 _ _ z2'
      · refine ⟨_, rfl, rfl, _, rfl, iteF ⟨_, rfl, rfl, _, rfl, iteF ⟨_, rfl, rfl, _, rfl, iteF ⟨_, rfl, rfl, _, rfl, iteF ⟨_, rfl, rfl, _, rfl, iteF ⟨_, rfl, rfl, _, rfl, iteT ⟨_, rfl, rx, rdx, _, rfl, hx1, rfl, _, rfl, .inr ⟨_, _, rfl, n, T.m_IT, _, rfl, rfl, fun x hx => ?_⟩⟩⟩⟩⟩⟩⟩⟩
        have k1 := s1.trans (same_new (o := ExK (IT K) x) hx)
        have y1 := upd_same (H := H) (a := x) (o := ExK (IT K) x)
        refine ⟨_, rfl, _, rfl, rfl, _, rfl, iteE (by simp) ⟨_, rfl, five_le, fun t ht => ?_⟩⟩
        generalize upd H x (ExK (IT K) x) = H2 at *
        have k2 := same_new (o := .tup [.ref (He.ga K "InvalidFraction"), .ref (He.ga K "InvalidName"), .ref (He.ga K "InvalidNumber"), .ref (He.ga K "InvalidTask"), .ref (He.ga K "InvalidTasks")]) ht
        have y2 := k2 _ _ y1
        refine ⟨x, IT K, t, _, _, _, rfl, y2, T.e_IT, upd_same, .cons (.own _) (.cons (.own _) (.cons (.own _) (.cons (.own _) (.cons (.own _) .nil)))), T.i_A_IT, _, rfl, iteF ?_⟩
        replace k1 := k1.trans k2
        generalize upd H2 t (.tup [.ref (He.ga K "InvalidFraction"), .ref (He.ga K "InvalidName"), .ref (He.ga K "InvalidNumber"), .ref (He.ga K "InvalidTask"), .ref (He.ga K "InvalidTasks")]) = H3 at *
        refine ⟨_, rfl, x, IT K, _, _, _, rfl, y2, T.e_IT, .own _, T.i_R_IT, _, rfl, x, IT K, _, _, _, rfl, y2, T.e_IT, .own _, T.i_T_IT, _, rfl, x, IT K, _, _, _, rfl, y2, T.e_IT, .ty _, T.i_V_IT, three_le', fun l hl => ?_⟩
        have k3 := k1.trans (same_new (o := .lst [.bl false, .bl true, .bl true]) hl)
        have y3 := upd_same (H := H3) (a := l) (o := .lst [.bl false, .bl true, .bl true])
        generalize upd H3 l (.lst [.bl false, .bl true, .bl true]) = H4 at *
        refine fun d hd => ⟨three_le', fun t1 h1 => ⟨three_le', fun t2 h2 => ?_⟩⟩
        have q1 := same_new (o := .dK []) hd
        have q2 := same_new (o := .tup [.bl true, .bl false, .bl true]) h1
        have q3 := same_new (o := .tup [.bl false, .bl true, .bl true]) h2
        have z0 := q3 _ _ (q2 _ _ (upd_same (H := H4) (a := d) (o := .dK [])))
        have z1 := q3 _ _ (upd_same (H := upd H4 d (.dK [])) (a := t1) (o := .tup [.bl true, .bl false, .bl true]))
        have z2 := upd_same (H := upd (upd H4 d (.dK [])) t1 (.tup [.bl true, .bl false, .bl true])) (a := t2) (o := .tup [.bl false, .bl true, .bl true])
        have k4 := k3.trans ((q1.trans q2).trans q3)
        have y4 := ((q1.trans q2).trans q3) _ _ y3
        have dn : H d = none := none_same k3 hd
        have d1 : t1 ≠ d := fun e => by subst e; rw [upd_same] at h1; cases h1
        have d2 : t2 ≠ d := fun e => by subst e; rw [q2 _ _ (upd_same (H := H4) (a := t2) (o := .dK []))] at h2; cases h2
        have dl : l ≠ d := fun e => by subst e; rw [hd] at y3; cases y3
        have s4 : ∀ o, Same H (upd (upd (upd (upd H4 d (.dK [])) t1 (.tup [.bl true, .bl false, .bl true])) t2 (.tup [.bl false, .bl true, .bl true])) d o) := fun o => same_mut k4 dn
        generalize upd (upd (upd H4 d (.dK [])) t1 (.tup [.bl true, .bl false, .bl true])) t2 (.tup [.bl false, .bl true, .bl true]) = H5 at *
        clear q1 q2 q3 h1 h2 hd k3 k4 y3
        refine ⟨z0, [([true, false, true], t1, "row"), ([false, true, true], t2, "tick")], rfl, fun p hp => ?_, (by show ([[true, false, true], [false, true, true]] : List (List Bool)).Nodup; decide), (by show (2 : Nat) ≤ 15; decide), fun nd => ?_⟩
        · simp only [List.mem_cons, List.not_mem_nil, or_false] at hp
          rcases hp with rfl | rfl
          · exact z1
          · exact z2
        replace s4 := s4 (DTb P w d [([true, false, true], t1, "row"), ([false, true, true], t2, "tick")])
        have w1 := upd_same (H := H5) (a := d) (o := DTb P w d [([true, false, true], t1, "row"), ([false, true, true], t2, "tick")])
        have z1' : upd H5 d (DTb P w d [([true, false, true], t1, "row"), ([false, true, true], t2, "tick")]) t1 = some (.tup [.bl true, .bl false, .bl true]) := by rw [upd_ne d1]; exact z1
        have z2' : upd H5 d (DTb P w d [([true, false, true], t1, "row"), ([false, true, true], t2, "tick")]) t2 = some (.tup [.bl false, .bl true, .bl true]) := by rw [upd_ne d2]; exact z2
        have y5 : upd H5 d (DTb P w d [([true, false, true], t1, "row"), ([false, true, true], t2, "tick")]) l = some (.lst [.bl false, .bl true, .bl true]) := by rw [upd_ne dl]; exact y4
        refine ⟨d, _, rfl, nd, w1, _, rfl, l, _, rfl, .inl ⟨sqL_of y5, fun t3 h3 => ?_⟩⟩
        have k5 := same_new (o := .tup [.bl false, .bl true, .bl true]) h3
        refine ⟨k5 _ _ w1, fun p hp => ?_, (by show ([[true, false, true], [false, true, true]] : List (List Bool)).Nodup; decide), t3, [false, true, true], "odd", rfl, rfl, upd_same, hQ _ (s4.trans k5)⟩
        simp only [List.mem_cons, List.not_mem_nil, or_false] at hp
        rcases hp with rfl | rfl
        · exact k5 _ _ z1'
        · exact k5 _ _ z2'
      · refine ⟨_, rfl, rfl, _, rfl, iteF ⟨_, rfl, rfl, _, rfl, iteF ⟨_, rfl, rfl, _, rfl, iteF ⟨_, rfl, rfl, _, rfl, iteF ⟨_, rfl, rfl, _, rfl, iteF ⟨_, rfl, rfl, _, rfl, iteF ⟨_, rfl, rfl, _, rfl, iteT ⟨_, rfl, rx, rdx, _, rfl, hx1, rfl, _, rfl, .inr ⟨_, _, rfl, n, T.m_IT, _, rfl, rfl, fun x hx => ?_⟩⟩⟩⟩⟩⟩⟩⟩⟩
        have k1 := s1.trans (same_new (o := ExK (IT K) x) hx)
        have y1 := upd_same (H := H) (a := x) (o := ExK (IT K) x)
        refine ⟨_, rfl, _, rfl, rfl, _, rfl, iteE (by simp) ⟨_, rfl, five_le, fun t ht => ?_⟩⟩
        generalize upd H x (ExK (IT K) x) = H2 at *
        have k2 := same_new (o := .tup [.ref (He.ga K "InvalidFraction"), .ref (He.ga K "InvalidName"), .ref (He.ga K "InvalidNumber"), .ref (He.ga K "InvalidTask"), .ref (He.ga K "InvalidTasks")]) ht
        have y2 := k2 _ _ y1
        refine ⟨x, IT K, t, _, _, _, rfl, y2, T.e_IT, upd_same, .cons (.own _) (.cons (.own _) (.cons (.own _) (.cons (.own _) (.cons (.own _) .nil)))), T.i_A_IT, _, rfl, iteF ?_⟩
        replace k1 := k1.trans k2
        generalize upd H2 t (.tup [.ref (He.ga K "InvalidFraction"), .ref (He.ga K "InvalidName"), .ref (He.ga K "InvalidNumber"), .ref (He.ga K "InvalidTask"), .ref (He.ga K "InvalidTasks")]) = H3 at *
        refine ⟨_, rfl, x, IT K, _, _, _, rfl, y2, T.e_IT, .own _, T.i_R_IT, _, rfl, x, IT K, _, _, _, rfl, y2, T.e_IT, .own _, T.i_T_IT, _, rfl, x, IT K, _, _, _, rfl, y2, T.e_IT, .ty _, T.i_V_IT, three_le', fun l hl => ?_⟩
        have k3 := k1.trans (same_new (o := .lst [.bl false, .bl true, .bl true]) hl)
        have y3 := upd_same (H := H3) (a := l) (o := .lst [.bl false, .bl true, .bl true])
        generalize upd H3 l (.lst [.bl false, .bl true, .bl true]) = H4 at *
        refine fun d hd => ⟨three_le', fun t1 h1 => ⟨three_le', fun t2 h2 => ?_⟩⟩
        have q1 := same_new (o := .dK []) hd
        have q2 := same_new (o := .tup [.bl true, .bl false, .bl true]) h1
        have q3 := same_new (o := .tup [.bl false, .bl true, .bl true]) h2
        have z0 := q3 _ _ (q2 _ _ (upd_same (H := H4) (a := d) (o := .dK [])))
        have z1 := q3 _ _ (upd_same (H := upd H4 d (.dK [])) (a := t1) (o := .tup [.bl true, .bl false, .bl true]))
        have z2 := upd_same (H := upd (upd H4 d (.dK [])) t1 (.tup [.bl true, .bl false, .bl true])) (a := t2) (o := .tup [.bl false, .bl true, .bl true])
        have k4 := k3.trans ((q1.trans q2).trans q3)
        have y4 := ((q1.trans q2).trans q3) _ _ y3
        have dn : H d = none := none_same k3 hd
        have d1 : t1 ≠ d := fun e => by subst e; rw [upd_same] at h1; cases h1
        have d2 : t2 ≠ d := fun e => by subst e; rw [q2 _ _ (upd_same (H := H4) (a := t2) (o := .dK []))] at h2; cases h2
        have dl : l ≠ d := fun e => by subst e; rw [hd] at y3; cases y3
        have s4 : ∀ o, Same H (upd (upd (upd (upd H4 d (.dK [])) t1 (.tup [.bl true, .bl false, .bl true])) t2 (.tup [.bl false, .bl true, .bl true])) d o) := fun o => same_mut k4 dn
        generalize upd (upd (upd H4 d (.dK [])) t1 (.tup [.bl true, .bl false, .bl true])) t2 (.tup [.bl false, .bl true, .bl true]) = H5 at *
        clear q1 q2 q3 h1 h2 hd k3 k4 y3
        refine ⟨z0, [([true, false, true], t1, "row"), ([false, true, true], t2, "tick")], rfl, fun p hp => ?_, (by show ([[true, false, true], [false, true, true]] : List (List Bool)).Nodup; decide), (by show (2 : Nat) ≤ 15; decide), fun nd => ?_⟩
        · simp only [List.mem_cons, List.not_mem_nil, or_false] at hp
          rcases hp with rfl | rfl
          · exact z1
          · exact z2
        replace s4 := s4 (DTb P w d [([true, false, true], t1, "row"), ([false, true, true], t2, "tick")])
        have w1 := upd_same (H := H5) (a := d) (o := DTb P w d [([true, false, true], t1, "row"), ([false, true, true], t2, "tick")])
        have z1' : upd H5 d (DTb P w d [([true, false, true], t1, "row"), ([false, true, true], t2, "tick")]) t1 = some (.tup [.bl true, .bl false, .bl true]) := by rw [upd_ne d1]; exact z1
        have z2' : upd H5 d (DTb P w d [([true, false, true], t1, "row"), ([false, true, true], t2, "tick")]) t2 = some (.tup [.bl false, .bl true, .bl true]) := by rw [upd_ne d2]; exact z2
        have y5 : upd H5 d (DTb P w d [([true, false, true], t1, "row"), ([false, true, true], t2, "tick")]) l = some (.lst [.bl false, .bl true, .bl true]) := by rw [upd_ne dl]; exact y4
        refine ⟨d, _, rfl, nd, w1, _, rfl, l, _, rfl, .inl ⟨sqL_of y5, fun t3 h3 => ?_⟩⟩
        have k5 := same_new (o := .tup [.bl false, .bl true, .bl true]) h3
        refine ⟨k5 _ _ w1, fun p hp => ?_, (by show ([[true, false, true], [false, true, true]] : List (List Bool)).Nodup; decide), t3, [false, true, true], "odd", rfl, rfl, upd_same, hQ _ (s4.trans k5)⟩
        simp only [List.mem_cons, List.not_mem_nil, or_false] at hp
        rcases hp with rfl | rfl
        · exact k5 _ _ z1'
        · exact k5 _ _ z2'
      · refine ⟨_, rfl, rfl, _, rfl, iteF ⟨_, rfl, rfl, _, rfl, iteF ⟨_, rfl, rfl, _, rfl, iteF ⟨_, rfl, rfl, _, rfl, iteF ⟨_, rfl, rfl, _, rfl, iteF ⟨_, rfl, rfl, _, rfl, iteF ⟨_, rfl, rfl, _, rfl, iteF ⟨_, rfl, rx, rdx, _, rfl, hx1, rfl, _, rfl, .inr ⟨_, _, rfl, n, T.m_IT, _, rfl, rfl, fun x hx => ?_⟩⟩⟩⟩⟩⟩⟩⟩⟩
        have k1 := s1.trans (same_new (o := ExK (IT K) x) hx)
        have y1 := upd_same (H := H) (a := x) (o := ExK (IT K) x)
        refine ⟨_, rfl, _, rfl, rfl, _, rfl, iteE (by simp) ⟨_, rfl, five_le, fun t ht => ?_⟩⟩
        generalize upd H x (ExK (IT K) x) = H2 at *
        have k2 := same_new (o := .tup [.ref (He.ga K "InvalidFraction"), .ref (He.ga K "InvalidName"), .ref (He.ga K "InvalidNumber"), .ref (He.ga K "InvalidTask"), .ref (He.ga K "InvalidTasks")]) ht
        have y2 := k2 _ _ y1
        refine ⟨x, IT K, t, _, _, _, rfl, y2, T.e_IT, upd_same, .cons (.own _) (.cons (.own _) (.cons (.own _) (.cons (.own _) (.cons (.own _) .nil)))), T.i_A_IT, _, rfl, iteF ?_⟩
        replace k1 := k1.trans k2
        generalize upd H2 t (.tup [.ref (He.ga K "InvalidFraction"), .ref (He.ga K "InvalidName"), .ref (He.ga K "InvalidNumber"), .ref (He.ga K "InvalidTask"), .ref (He.ga K "InvalidTasks")]) = H3 at *
        refine ⟨_, rfl, x, IT K, _, _, _, rfl, y2, T.e_IT, .own _, T.i_R_IT, _, rfl, x, IT K, _, _, _, rfl, y2, T.e_IT, .own _, T.i_T_IT, _, rfl, x, IT K, _, _, _, rfl, y2, T.e_IT, .ty _, T.i_V_IT, three_le', fun l hl => ?_⟩
        have k3 := k1.trans (same_new (o := .lst [.bl false, .bl true, .bl true]) hl)
        have y3 := upd_same (H := H3) (a := l) (o := .lst [.bl false, .bl true, .bl true])
        generalize upd H3 l (.lst [.bl false, .bl true, .bl true]) = H4 at *
        refine fun d hd => ⟨three_le', fun t1 h1 => ⟨three_le', fun t2 h2 => ?_⟩⟩
        have q1 := same_new (o := .dK []) hd
        have q2 := same_new (o := .tup [.bl true, .bl false, .bl true]) h1
        have q3 := same_new (o := .tup [.bl false, .bl true, .bl true]) h2
        have z0 := q3 _ _ (q2 _ _ (upd_same (H := H4) (a := d) (o := .dK [])))
        have z1 := q3 _ _ (upd_same (H := upd H4 d (.dK [])) (a := t1) (o := .tup [.bl true, .bl false, .bl true]))
        have z2 := upd_same (H := upd (upd H4 d (.dK [])) t1 (.tup [.bl true, .bl false, .bl true])) (a := t2) (o := .tup [.bl false, .bl true, .bl true])
        have k4 := k3.trans ((q1.trans q2).trans q3)
        have y4 := ((q1.trans q2).trans q3) _ _ y3
        have dn : H d = none := none_same k3 hd
        have d1 : t1 ≠ d := fun e => by subst e; rw [upd_same] at h1; cases h1
        have d2 : t2 ≠ d := fun e => by subst e; rw [q2 _ _ (upd_same (H := H4) (a := t2) (o := .dK []))] at h2; cases h2
        have dl : l ≠ d := fun e => by subst e; rw [hd] at y3; cases y3
        have s4 : ∀ o, Same H (upd (upd (upd (upd H4 d (.dK [])) t1 (.tup [.bl true, .bl false, .bl true])) t2 (.tup [.bl false, .bl true, .bl true])) d o) := fun o => same_mut k4 dn
        generalize upd (upd (upd H4 d (.dK [])) t1 (.tup [.bl true, .bl false, .bl true])) t2 (.tup [.bl false, .bl true, .bl true]) = H5 at *
        clear q1 q2 q3 h1 h2 hd k3 k4 y3
        refine ⟨z0, [([true, false, true], t1, "row"), ([false, true, true], t2, "tick")], rfl, fun p hp => ?_, (by show ([[true, false, true], [false, true, true]] : List (List Bool)).Nodup; decide), (by show (2 : Nat) ≤ 15; decide), fun nd => ?_⟩
        · simp only [List.mem_cons, List.not_mem_nil, or_false] at hp
          rcases hp with rfl | rfl
          · exact z1
          · exact z2
        replace s4 := s4 (DTb P w d [([true, false, true], t1, "row"), ([false, true, true], t2, "tick")])
        have w1 := upd_same (H := H5) (a := d) (o := DTb P w d [([true, false, true], t1, "row"), ([false, true, true], t2, "tick")])
        have z1' : upd H5 d (DTb P w d [([true, false, true], t1, "row"), ([false, true, true], t2, "tick")]) t1 = some (.tup [.bl true, .bl false, .bl true]) := by rw [upd_ne d1]; exact z1
        have z2' : upd H5 d (DTb P w d [([true, false, true], t1, "row"), ([false, true, true], t2, "tick")]) t2 = some (.tup [.bl false, .bl true, .bl true]) := by rw [upd_ne d2]; exact z2
        have y5 : upd H5 d (DTb P w d [([true, false, true], t1, "row"), ([false, true, true], t2, "tick")]) l = some (.lst [.bl false, .bl true, .bl true]) := by rw [upd_ne dl]; exact y4
        refine ⟨d, _, rfl, nd, w1, _, rfl, l, _, rfl, .inl ⟨sqL_of y5, fun t3 h3 => ?_⟩⟩
        have k5 := same_new (o := .tup [.bl false, .bl true, .bl true]) h3
        refine ⟨k5 _ _ w1, fun p hp => ?_, (by show ([[true, false, true], [false, true, true]] : List (List Bool)).Nodup; decide), t3, [false, true, true], "odd", rfl, rfl, upd_same, hQ _ (s4.trans k5)⟩
        simp only [List.mem_cons, List.not_mem_nil, or_false] at hp
        rcases hp with rfl | rfl
        · exact k5 _ _ z1'
        · exact k5 _ _ z2'
    | fine0 S =>
      refine ⟨_, rfl, rfl, _, rfl, iteT ⟨_, rfl, fun y dy hy hdy ne => .inl (.inr (mk_row1T S .nil Gw.none hy hdy ne (fun H' s _ => ⟨_, rfl, rfl, _, rfl, iteT (hQ _ s)⟩)))⟩⟩
    | fine1 S hp g =>
      refine ⟨_, rfl, rfl, _, rfl, iteF ⟨_, rfl, rfl, _, rfl, iteT ⟨_, rfl, rfl, fun y dy hy hdy ne => ⟨[_], rfl, .inl (.inl (mk_row1 S hp g hy hdy ne (fun H' s _ => ⟨_, rfl, rfl, _, rfl, iteT (hQ _ s)⟩)))⟩⟩⟩⟩
    | fine2 R1 R2 g =>
      obtain ⟨rx, rdx, rd, rks, rfl, hx1, hd1, hK, nf⟩ := id R1
      obtain ⟨ry, rdy, re, rls, rfl, hy1, he1, hL, ng⟩ := id R2
      exact ⟨_, rfl, rfl, _, rfl, iteF ⟨_, rfl, rfl, _, rfl, iteF ⟨_, rfl, rfl, _, rfl, iteT ⟨_, rfl, _, rfl, rx, rdx, _, rfl, hx1, .inr ⟨ry, rdy, _, rfl, hy1⟩, .inl ⟨_, _, _, _, rfl, R1, R2, g, fun x H' s _ => ⟨_, rfl, rfl, _, rfl, iteT (hQ _ s)⟩⟩⟩⟩⟩⟩
    | fine3 R1 R2 g1 g2 g =>
      obtain ⟨rx, rdx, rd, rks, rfl, hx1, hd1, hK, nf⟩ := id R1
      obtain ⟨ry, rdy, re, rls, rfl, hy1, he1, hL, ng⟩ := id R2
      exact ⟨_, rfl, rfl, _, rfl, iteF ⟨_, rfl, rfl, _, rfl, iteF ⟨_, rfl, rfl, _, rfl, iteF ⟨_, rfl, rfl, _, rfl, iteT ⟨_, rfl, _, rfl, rx, rdx, _, rfl, hx1, .inr ⟨ry, rdy, _, rfl, hy1⟩, .inl ⟨_, _, _, _, rfl, R1, R2, g1, g2, g, fun x H' s _ => ⟨_, rfl, rfl, _, rfl, iteT (hQ _ s)⟩⟩⟩⟩⟩⟩⟩
    | fine4 hd R n0 g g2 =>
      obtain ⟨rx, rdx, rd, rks, rfl, hx1, hd1, hK, nf⟩ := id R
      rcases hd with rfl | rfl | rfl | rfl
      · exact ⟨_, rfl, rfl, _, rfl, iteF ⟨_, rfl, rfl, _, rfl, iteF ⟨_, rfl, rfl, _, rfl, iteF ⟨_, rfl, rfl, _, rfl, iteF ⟨_, rfl, rfl, _, rfl, iteT ⟨_, rfl, rx, rdx, _, rfl, hx1, rfl, _, rfl, .inl ⟨_, _, _, rfl, R, n0, g, g2, fun x H' s _ => ⟨_, rfl, rfl, _, rfl, iteT (hQ _ s)⟩⟩⟩⟩⟩⟩⟩⟩
      · exact ⟨_, rfl, rfl, _, rfl, iteF ⟨_, rfl, rfl, _, rfl, iteF ⟨_, rfl, rfl, _, rfl, iteF ⟨_, rfl, rfl, _, rfl, iteF ⟨_, rfl, rfl, _, rfl, iteF ⟨_, rfl, rfl, _, rfl, iteT ⟨_, rfl, rx, rdx, _, rfl, hx1, rfl, _, rfl, .inl ⟨_, _, _, rfl, R, n0, g, fun x H' s _ => ⟨_, rfl, rfl, _, rfl, iteT (hQ _ s)⟩⟩⟩⟩⟩⟩⟩⟩⟩
      · exact ⟨_, rfl, rfl, _, rfl, iteF ⟨_, rfl, rfl, _, rfl, iteF ⟨_, rfl, rfl, _, rfl, iteF ⟨_, rfl, rfl, _, rfl, iteF ⟨_, rfl, rfl, _, rfl, iteF ⟨_, rfl, rfl, _, rfl, iteF ⟨_, rfl, rfl, _, rfl, iteT ⟨_, rfl, rx, rdx, _, rfl, hx1, rfl, _, rfl, .inl ⟨_, _, _, rfl, R, n0, fun x _ => ⟨_, rfl, rfl, _, rfl, iteT (hQ _ (Same.refl _))⟩⟩⟩⟩⟩⟩⟩⟩⟩⟩
      · exact ⟨_, rfl, rfl, _, rfl, iteF ⟨_, rfl, rfl, _, rfl, iteF ⟨_, rfl, rfl, _, rfl, iteF ⟨_, rfl, rfl, _, rfl, iteF ⟨_, rfl, rfl, _, rfl, iteF ⟨_, rfl, rfl, _, rfl, iteF ⟨_, rfl, rfl, _, rfl, iteF ⟨_, rfl, rx, rdx, _, rfl, hx1, rfl, _, rfl, .inl ⟨_, _, _, rfl, R, n0, g, fun x H' s _ => ⟨_, rfl, rfl, _, rfl, iteT (hQ _ s)⟩⟩⟩⟩⟩⟩⟩⟩⟩⟩
end
end L05
set_option maxRecDepth 100000
set_option maxHeartbeats 4000000
namespace L05
open PySem PySem.Spec PyProof.Rows L2 Q7
section
variable {P : Program} {w : World} {K : PySem.W.Frag} {mg : Str → Option Value} {base : Heap}
/-! ### values that are nearly pairs -/
def OddP (K : PySem.W.Frag) (H : Hp) (v : V) : Prop := NoPr K H v ∧ ∃ d, DpW K H v d ∧ Sz8 60 6 d
theorem oddP_same {H H' : Hp} {v : V} (s : Same H H') (h : OddP K H v) : OddP K H' v := ⟨noPr_same s h.1, by obtain ⟨d, dp, z⟩ := h.2; exact ⟨d, dpW_same s dp, z⟩⟩
theorem oddP_of {H : Hp} {v : V} {d : PyData} {n m : Nat} (nf : NoPr K H v) (dp : DpW K H v d) (z : Sz8 n m d) (hn : n ≤ 60 := by decide) (hm : m ≤ 6 := by decide) : OddP K H v := ⟨nf, d, dp, z.mono hn hm⟩
/-- the pair that is bent: its tick, its fraction -/
structure Pq (K : PySem.W.Frag) (px pq : Addr) (t n d : Int) (G : Hp) : Prop where
  p : SqT K G px [.int t, .ref pq]
  q : SqT K G pq [.int n, .int d]
theorem Pq.same {px pq : Addr} {t n d : Int} {A B : Hp} (s : Same A B) (h : Pq K px pq t n d A) : Pq K px pq t n d B := ⟨Q7.sqT_same s h.p, Q7.sqT_same s h.q⟩
def Pqt (K : PySem.W.Frag) (px pq : Addr) (t n d : Int) (y : Addr) (us : List V) (G : Hp) : Prop := Pq K px pq t n d G ∧ SqT K G y us
theorem pqt_same {px pq : Addr} {t n d : Int} {y : Addr} {us : List V} {A B : Hp} (s : Same A B) (h : Pqt K px pq t n d y us A) : Pqt K px pq t n d y us B := ⟨h.1.same s, Q7.sqT_same s h.2⟩
def Pql (K : PySem.W.Frag) (px pq : Addr) (t n d : Int) (y : Addr) (us : List V) (G : Hp) : Prop := Pq K px pq t n d G ∧ G y = some (.lst us)
theorem pql_same {px pq : Addr} {t n d : Int} {y : Addr} {us : List V} {A B : Hp} (s : Same A B) (h : Pql K px pq t n d y us A) : Pql K px pq t n d y us B := ⟨h.1.same s, s _ _ h.2⟩
section
variable {px pq : Addr} {t n d : Int} {G : Hp}
theorem Pq.dq (h : Pq K px pq t n d G) : DpW K G (.ref pq) (.tuple [.int n, .int d]) := .tup h.q (.cons (.int _) (.cons (.int _) .nil))
end
def spBadP (K : PySem.W.Frag) : Sp := fun vs H Q _ => ∃ b s0 s1 s2 x t, vs = [.ref b, x] ∧ SrcAt H b s0 s1 s2 ∧ 0 ≤ s2 ∧ s2 < 2 ^ 36 ∧ s1.natAbs < 2 ^ 150 ∧ PrV K H x t ∧ 0 ≤ t.1 ∧ t.1.natAbs < 2 ^ 300 ∧ B 500 t.2 ∧
  ∀ v H' s0' s2', GdB (OddP K) b H' v → Sb b H H' → SrcAt H' b s0' s1 s2' → s2 ≤ s2' → s2' ≤ s2 + 1 → Q v H'
theorem share_odd {px pq : Addr} {t n d : Int} {G : Hp} (fx : Pq K px pq t n d G) (h : 0 < d) : NoPr K G (.ref pq) := by
  by_cases c : n < 0
  · exact .tick fx.q (.inr ⟨_, rfl, c⟩)
  · exact .share fx.q (by omega) (.kind (ki_int _) (by decide))
theorem gcd_mul2 {h l : Int} : Nat.gcd (h * 2).natAbs (l * 2).natAbs ≠ 1 := by
  rw [Int.natAbs_mul, Int.natAbs_mul, Nat.gcd_mul_right]
  intro e
  have := Nat.eq_one_of_mul_eq_one_left e
  simp at this
theorem shI_sm {i : Int} (h : i.natAbs < 4 := by decide) : ShI i := Nat.lt_of_lt_of_le h (by decide)
theorem at_any {xs : List V} {r : Int} (r0 : 0 ≤ r) (r1 : r < (xs.length : Int)) : ∃ v ∈ xs, atI xs r = some v := by
  have h : r.toNat < xs.length := by omega
  refine ⟨xs[r.toNat], List.getElem_mem h, ?_⟩
  simp only [atI, ixN]
  rw [if_pos (by omega), if_pos (by omega)]
  simp [h]
theorem ok__law_bad_pair (T : Txt K mg) : FnOk P w K mg base CX0 2 (He.ga K "_law_bad_pair") T.fd__law_bad_pair ["source", "pair"] (spBadP K) := by
  refine T.F__law_bad_pair.ok sc__law_bad_pair (fun vs H Q E h => ?_) (fun cdv A outer s H vs Q E hr h => ⟨_, PSs.nox
    (pss_cons (ps_asg (pv 1) (pg_tup rfl (pgs_cons (pg_name (i := 2) sc__law_bad_pair.nd rfl (.inl rfl)) (pgs_cons (pg_name (i := 3) sc__law_bad_pair.nd rfl (.inl rfl)) pgs_nil))))
      (pss_cons (ps_set (i := 4) sc__law_bad_pair.nd rfl (.inl rfl) (pe_lst (pa_cons (pe_tup (pa_cons (pe_un un_neg pe_int) (pa_cons (pv 3) pa_nil))) (pa_cons (pe_tup (pa_cons pe_bl (pa_cons (pv 3) pa_nil))) (pa_cons (pe_tup (pa_cons pe_non (pa_cons (pv 3) pa_nil))) (pa_cons (pe_tup (pa_cons pe_str (pa_cons (pv 3) pa_nil))) (pa_cons (pe_tup (pa_cons (pe_tup (pa_cons (pv 2) pa_nil)) (pa_cons (pv 3) pa_nil))) (pa_cons (pe_tup (pa_cons (pv 2) (pa_cons (pe_ix ix_tup (pv 3) pe_int (fun _ _ => rfl)) pa_nil))) (pa_cons (pe_tup (pa_cons (pv 2) (pa_cons pe_non pa_nil))) pa_nil)))))))))
      (pss_cons (ps_set (i := 4) sc__law_bad_pair.nd rfl (.inl rfl) (pe_op op_cat (pv 4) (pe_lst (pa_cons (pe_tup (pa_cons (pv 2) (pa_cons (pe_tup (pa_cons (pe_op op_mulW (pe_ix ix_tup (pv 3) pe_int (fun _ _ => rfl)) pe_int) (pa_cons (pe_op op_mulW (pe_ix ix_tup (pv 3) pe_int (fun _ _ => rfl)) pe_int) pa_nil))) pa_nil))) (pa_cons (pe_tup (pa_cons (pv 2) (pa_cons (pe_tup (pa_cons (pe_ix ix_tup (pv 3) pe_int (fun _ _ => rfl)) (pa_cons (pe_un un_neg (pe_ix ix_tup (pv 3) pe_int (fun _ _ => rfl))) pa_nil))) pa_nil))) (pa_cons (pe_tup (pa_cons (pv 2) (pa_cons (pe_lst (pa_cons (pe_ix ix_tup (pv 3) pe_int (fun _ _ => rfl)) (pa_cons (pe_ix ix_tup (pv 3) pe_int (fun _ _ => rfl)) pa_nil))) pa_nil))) pa_nil))))))
      (pss_cons (ps_set (i := 4) sc__law_bad_pair.nd rfl (.inl rfl) (pe_op op_cat (pv 4) (pe_lst (pa_cons (pe_tup (pa_cons (pv 2) (pa_cons (pe_tup (pa_cons pe_bl (pa_cons pe_int pa_nil))) pa_nil))) (pa_cons (pe_tup (pa_cons (pv 2) (pa_cons (pe_tup (pa_cons pe_int (pa_cons pe_bl pa_nil))) pa_nil))) (pa_cons (pe_tup (pa_cons (pv 2) (pa_cons (pv 3) (pa_cons (pv 3) pa_nil)))) (pa_cons (pe_tup (pa_cons (pv 2) pa_nil)) (pa_cons (pe_lst (pa_cons (pv 2) (pa_cons (pv 3) pa_nil))) (pa_cons pe_non (pa_cons (pv 2) pa_nil))))))))))
      (pss_cons (ps_expr (pe_bm PySem.F.plainAttrs_list PySem.F.slot_list_append PySem.F.type_list_append mt_append (pv 4) (pa_cons (pv 3) pa_nil)))
      (pss_cons (ps_set (i := 4) sc__law_bad_pair.nd rfl (.inl rfl) (pe_op op_cat (pv 4) (pe_lst (pa_cons (pe_tup pa_nil) (pa_cons (pe_disp (pps_cons (pv 2) (pv 3) pps_nil) (by rfl) (by rfl) (fun z => by cases z) (by decide)) (pa_cons pe_str (pa_cons (pe_tup (pa_cons (pv 3) (pa_cons (pv 2) pa_nil))) (pa_cons (pe_tup (pa_cons (pv 2) (pa_cons (pe_tup (pa_cons pe_int (pa_cons pe_int pa_nil))) pa_nil))) (pa_cons (pe_tup (pa_cons (pv 2) (pa_cons (pe_tup pa_nil) pa_nil))) (pa_cons (pe_tup (pa_cons (pe_op op_sub (pe_op op_sub pe_int (pv 2)) pe_int) (pa_cons (pv 3) pa_nil))) (pa_cons pe_bl pa_nil)))))))))))
      (pss_one (ps_ret (pe_ix ix_list (pv 4) (pe_call (ok__law_draw T) (hr.mono (by decide)) (by rfl) T.g__law_draw T.F__law_draw.kp T.b__law_draw .nil pass0 (pa_cons (pv 0) (pa_cons pe_int pa_nil))) (fun _ _ => rfl)))))))))), ?_⟩)
  · obtain ⟨b, s0, s1, s2, x, t, rfl, _⟩ := h
    rfl
  · obtain ⟨b, s0, s1, s2, x, ⟨t, q⟩, rfl, hs, d0, d1, e1, ⟨px, y, rfl, Sp, ⟨pq, rfl, Sq⟩⟩, t0, tb, bq, hQ⟩ := h
    simp only at Sp Sq t0 tb bq
    have bh : q.num.natAbs < 2 ^ 500 := bq.1
    have bl : ((q.den : Int)).natAbs < 2 ^ 500 := by rw [Int.natAbs_natCast]; exact bq.2
    have dpos : (0 : Int) < q.den := by have := q.den_pos; omega
    generalize q.num = n at *
    generalize (q.den : Int) = d at *
    refine ⟨_, rfl, px, _, rfl, Sp, rfl, _, _, rfl, _, _, rfl, rfl, ?_⟩
    have W : Wg (Pq K px pq t n d) (OddP K) b H H H (.lst [.int s0, .int s1, .int s2]) [] := Wg.start hs ⟨butB_tup hs Sp, butB_tup hs Sq⟩
    have st : Sz8 1 0 (.int t) := (sm_int (up_pow tb (by decide))).z
    have sn : Sz8 1 0 (.int n) := (sm_int (up_pow bh (by decide))).z
    have sd : Sz8 1 0 (.int d) := (sm_int (up_pow bl (by decide))).z
    have sq : Sz8 4 1 (.tuple [.int n, .int d]) := (sz_tup (sz_cons sn (sz_cons sd sz_nil))).mono
    have s1' : ∀ i : Int, i.natAbs < 4 → Sz8 1 0 (.int i) := fun i h => (sm_int (Nat.lt_of_lt_of_le h (by decide))).z
    have one_le : 1 ≤ sizeLine := by decide
    have zero_le : 0 ≤ sizeLine := by decide
    have seven_le : 7 ≤ sizeLine := by decide
    have eight_le : 8 ≤ sizeLine := by decide
    have c10 : 7 + 3 ≤ sizeLine := by decide
    have c17 : 10 + 7 ≤ sizeLine := by decide
    have c18 : 17 < sizeLine := by decide
    have c26 : 18 + 8 ≤ sizeLine := by decide
    have stP : Stab (Pq K px pq t n d) := fun _ _ s h => h.same s
    have stO : StabV (OddP K) := fun _ _ _ s h => oddP_same s h
    have stT : ∀ (y : Addr) (us : List V), Stab (Pqt K px pq t n d y us) := fun _ _ _ _ s h => pqt_same s h
    have stL : ∀ (y : Addr) (us : List V), Stab (Pql K px pq t n d y us) := fun _ _ _ _ s h => pql_same s h
    have b2 : (2 : Int).natAbs < 2 ^ 8 := by decide
    have sn2 : Sz8 1 0 (.int (n * 2)) := (sm_int (up_pow (abs_mul_lt bh b2) (by decide))).z
    have sd2 : Sz8 1 0 (.int (d * 2)) := (sm_int (up_pow (abs_mul_lt bl b2) (by decide))).z
    have sdn : Sz8 1 0 (.int (-d)) := (sm_int (by unfold ShI; rw [Int.natAbs_neg]; exact up_pow bl (by decide))).z
    have st1 : Sz8 1 0 (.int (0 - t - 1)) := (sm_int (up_pow (n := 301) (show (0 - t - 1).natAbs < 2 ^ 301 by rw [Nat.pow_succ]; omega) (by decide))).z
    -- the first seven
    refine ⟨_, rfl, _, rfl, two_le, fun p1 h1 => ?_⟩
    replace W := W.one (v := .ref p1) (o := .tup [.int (-1), .ref pq]) stP stO h1 (fun G fx => oddP_of (.tick (sqT_of upd_same) (.inr ⟨_, rfl, by decide⟩)) (.tup (sqT_of upd_same) (.cons (.int _) (.cons fx.dq .nil))) (sz_tup (sz_cons (s1' _ (by decide)) (sz_cons sq sz_nil))))
    refine ⟨_, rfl, two_le, fun p2 h2 => ?_⟩
    replace W := W.one (v := .ref p2) (o := .tup [.bl true, .ref pq]) stP stO h2 (fun G fx => oddP_of (.tick (sqT_of upd_same) (.inl ⟨"bool", .inl (ki_bl _), by decide⟩)) (.tup (sqT_of upd_same) (.cons (.bl _) (.cons fx.dq .nil))) (sz_tup (sz_cons (sm_bl _).z (sz_cons sq sz_nil))))
    refine ⟨_, rfl, two_le, fun p3 h3 => ?_⟩
    replace W := W.one (v := .ref p3) (o := .tup [.non, .ref pq]) stP stO h3 (fun G fx => oddP_of (.tick (sqT_of upd_same) (.inl ⟨"NoneType", .inl ki_non, by decide⟩)) (.tup (sqT_of upd_same) (.cons .non (.cons fx.dq .nil))) (sz_tup (sz_cons sm_non.z (sz_cons sq sz_nil))))
    refine ⟨_, rfl, two_le, fun p4 h4 => ?_⟩
    replace W := W.one (v := .ref p4) (o := .tup [.str "0", .ref pq]) stP stO h4 (fun G fx => oddP_of (.tick (sqT_of upd_same) (.inl ⟨"str", .inl (ki_str _), by decide⟩)) (.tup (sqT_of upd_same) (.cons (.str _) (.cons fx.dq .nil))) (sz_tup (sz_cons (sm_str (n := 1) (okS_of _) (by decide)).z (sz_cons sq sz_nil))))
    refine ⟨_, rfl, one_le, fun p5 h5 => ?_⟩
    replace W := W.aux (Fx' := Pqt K px pq t n d p5 [.int t]) (o := .tup [.int t]) stP stO h5 (fun G fx => ⟨fx, sqT_of upd_same⟩)
    refine ⟨_, rfl, two_le, fun p6 h6 => ?_⟩
    replace W := (W.one (v := .ref p6) (o := .tup [.ref p5, .ref pq]) (stT p5 [.int t]) stO h6 (fun G fx => oddP_of (.tick (sqT_of upd_same) (.inl ⟨"tuple", .inl (ki_tup fx.2), by decide⟩)) (.tup (sqT_of upd_same) (.cons (.tup fx.2 (.cons (.int _) .nil)) (.cons fx.1.dq .nil))) (sz_tup (sz_cons (sz_tup (sz_cons st sz_nil)) (sz_cons sq sz_nil))))).imp (Fx' := Pq K px pq t n d) fun G h => h.1
    have F := W.at stP
    refine ⟨_, rfl, _, rfl, _, _, _, _, rfl, rfl, F.q, rfl, two_le, fun p7 h7 => ?_⟩
    replace W := W.one (v := .ref p7) (o := .tup [.int t, .int n]) stP stO h7 (fun G fx => oddP_of (.share (sqT_of upd_same) t0 (.kind (ki_int _) (by decide))) (.tup (sqT_of upd_same) (.cons (.int _) (.cons (.int _) .nil))) (sz_tup (sz_cons st (sz_cons sn sz_nil))))
    refine ⟨_, rfl, two_le, fun p8 h8 => ?_⟩
    replace W := W.one (v := .ref p8) (o := .tup [.int t, .non]) stP stO h8 (fun G fx => oddP_of (.share (sqT_of upd_same) t0 (.kind ki_non (by decide))) (.tup (sqT_of upd_same) (.cons (.int _) (.cons .non .nil))) (sz_tup (sz_cons st (sz_cons sm_non.z sz_nil))))
    refine ⟨seven_le, fun l1 g1 => ?_⟩
    replace W := (W.new (o := .lst [.ref p1, .ref p2, .ref p3, .ref p4, .ref p6, .ref p7, .ref p8]) g1).mark
    -- three more
    replace F := W.at stP
    refine ⟨_, rfl, _, rfl, _, rfl, _, _, _, _, rfl, rfl, F.q, rfl, _, _, rfl, rfl, cmul_of (a := 500) (b := 8) bh b2 (by decide), _, rfl, _, _, _, _, rfl, rfl, F.q, rfl, _, _, rfl, rfl, cmul_of (a := 500) (b := 8) bl b2 (by decide), two_le, fun p9 h9 => ?_⟩
    replace W := W.aux (Fx' := Pqt K px pq t n d p9 [.int (n * 2), .int (d * 2)]) (o := .tup [.int (n * 2), .int (d * 2)]) stP stO h9 (fun G fx => ⟨fx, sqT_of upd_same⟩)
    refine ⟨two_le, fun p10 h10 => ?_⟩
    replace W := (W.one (v := .ref p10) (o := .tup [.int t, .ref p9]) (stT p9 [.int (n * 2), .int (d * 2)]) stO h10 (fun G fx => oddP_of (.share (sqT_of upd_same) t0 (.low fx.2 (.inr gcd_mul2))) (.tup (sqT_of upd_same) (.cons (.int _) (.cons (.tup fx.2 (.cons (.int _) (.cons (.int _) .nil))) .nil))) (sz_tup (sz_cons st (sz_cons (sz_tup (sz_cons sn2 (sz_cons sd2 sz_nil))) sz_nil))))).imp (Fx' := Pq K px pq t n d) fun G h => h.1
    replace F := W.at stP
    refine ⟨_, rfl, _, rfl, _, _, _, _, rfl, rfl, F.q, rfl, _, rfl, _, _, _, _, rfl, rfl, F.q, rfl, _, rfl, two_le, fun p11 h11 => ?_⟩
    replace W := W.aux (Fx' := Pqt K px pq t n d p11 [.int n, .int (-d)]) (o := .tup [.int n, .int (-d)]) stP stO h11 (fun G fx => ⟨fx, sqT_of upd_same⟩)
    refine ⟨two_le, fun p12 h12 => ?_⟩
    replace W := (W.one (v := .ref p12) (o := .tup [.int t, .ref p11]) (stT p11 [.int n, .int (-d)]) stO h12 (fun G fx => oddP_of (.share (sqT_of upd_same) t0 (.low fx.2 (.inl (by omega)))) (.tup (sqT_of upd_same) (.cons (.int _) (.cons (.tup fx.2 (.cons (.int _) (.cons (.int _) .nil))) .nil))) (sz_tup (sz_cons st (sz_cons (sz_tup (sz_cons sn (sz_cons sdn sz_nil))) sz_nil))))).imp (Fx' := Pq K px pq t n d) fun G h => h.1
    replace F := W.at stP
    refine ⟨_, rfl, _, rfl, _, _, _, _, rfl, rfl, F.q, rfl, _, rfl, _, _, _, _, rfl, rfl, F.q, rfl, two_le, fun p13 h13 => ?_⟩
    replace W := W.aux (Fx' := Pql K px pq t n d p13 [.int n, .int d]) (o := .lst [.int n, .int d]) stP stO h13 (fun G fx => ⟨fx, upd_same⟩)
    refine ⟨two_le, fun p14 h14 => ?_⟩
    replace W := (W.one (v := .ref p14) (o := .tup [.int t, .ref p13]) (stL p13 [.int n, .int d]) stO h14 (fun G fx => oddP_of (.share (sqT_of upd_same) t0 (.kind (ki_lst (sqL_of fx.2)) (by decide))) (.tup (sqT_of upd_same) (.cons (.int _) (.cons (.lst (sqL_of fx.2) (.cons (.int _) (.cons (.int _) .nil))) .nil))) (sz_tup (sz_cons st (sz_cons (sz_lst (sz_cons sn (sz_cons sd sz_nil))) sz_nil))))).imp (Fx' := Pq K px pq t n d) fun G h => h.1
    refine ⟨three_le', fun l2 g2 => ?_⟩
    replace W := W.new (o := .lst [.ref p10, .ref p12, .ref p14]) g2
    refine ⟨l1, l2, _, _, rfl, rfl, W.sk _ _ upd_same, upd_same, c10, fun l3 g3 => ?_⟩
    replace W := (W.new (o := .lst ([.ref p1, .ref p2, .ref p3, .ref p4, .ref p6, .ref p7, .ref p8] ++ [.ref p10, .ref p12, .ref p14])) g3).mark
    -- seven more
    refine ⟨_, rfl, _, rfl, two_le, fun p15 h15 => ?_⟩
    replace W := W.aux (Fx' := Pqt K px pq t n d p15 [.bl true, .int 2]) (o := .tup [.bl true, .int 2]) stP stO h15 (fun G fx => ⟨fx, sqT_of upd_same⟩)
    refine ⟨two_le, fun p16 h16 => ?_⟩
    replace W := (W.one (v := .ref p16) (o := .tup [.int t, .ref p15]) (stT p15 [.bl true, .int 2]) stO h16 (fun G fx => oddP_of (.share (sqT_of upd_same) t0 (.top fx.2 (ki_bl _) (by decide))) (.tup (sqT_of upd_same) (.cons (.int _) (.cons (.tup fx.2 (.cons (.bl _) (.cons (.int _) .nil))) .nil))) (sz_tup (sz_cons st (sz_cons (sz_tup (sz_cons (sm_bl _).z (sz_cons (s1' _ (by decide)) sz_nil))) sz_nil))))).imp (Fx' := Pq K px pq t n d) fun G h => h.1
    refine ⟨_, rfl, two_le, fun p17 h17 => ?_⟩
    replace W := W.aux (Fx' := Pqt K px pq t n d p17 [.int 1, .bl true]) (o := .tup [.int 1, .bl true]) stP stO h17 (fun G fx => ⟨fx, sqT_of upd_same⟩)
    refine ⟨two_le, fun p18 h18 => ?_⟩
    replace W := (W.one (v := .ref p18) (o := .tup [.int t, .ref p17]) (stT p17 [.int 1, .bl true]) stO h18 (fun G fx => oddP_of (.share (sqT_of upd_same) t0 (.bot fx.2 (ki_bl _) (by decide))) (.tup (sqT_of upd_same) (.cons (.int _) (.cons (.tup fx.2 (.cons (.int _) (.cons (.bl _) .nil))) .nil))) (sz_tup (sz_cons st (sz_cons (sz_tup (sz_cons (s1' _ (by decide)) (sz_cons (sm_bl _).z sz_nil))) sz_nil))))).imp (Fx' := Pq K px pq t n d) fun G h => h.1
    refine ⟨_, rfl, _, rfl, _, rfl, three_le', fun p19 h19 => ?_⟩
    replace W := W.one (v := .ref p19) (o := .tup [.int t, .ref pq, .ref pq]) stP stO h19 (fun G fx => oddP_of (.many (sqT_of upd_same) (by simp)) (.tup (sqT_of upd_same) (.cons (.int _) (.cons fx.dq (.cons fx.dq .nil)))) (sz_tup (sz_cons st (sz_cons sq (sz_cons sq sz_nil)))))
    refine ⟨_, rfl, one_le, fun p20 h20 => ?_⟩
    replace W := W.one (v := .ref p20) (o := .tup [.int t]) stP stO h20 (fun G fx => oddP_of (.many (sqT_of upd_same) (by simp)) (.tup (sqT_of upd_same) (.cons (.int _) .nil)) (sz_tup (sz_cons st sz_nil)))
    refine ⟨_, rfl, _, rfl, two_le, fun p21 h21 => ?_⟩
    replace W := W.one (v := .ref p21) (o := .lst [.int t, .ref pq]) stP stO h21 (fun G fx => oddP_of (.kind (ki_lst (sqL_of upd_same)) (by decide)) (.lst (sqL_of upd_same) (.cons (.int _) (.cons fx.dq .nil))) (sz_lst (sz_cons st (sz_cons sq sz_nil))))
    replace W := W.add (v := .non) (fun G fx => oddP_of (.kind ki_non (by decide)) .non sm_non.z)
    replace W := W.add (v := .int t) (fun G fx => oddP_of (.kind (ki_int _) (by decide)) (.int _) st)
    refine ⟨_, rfl, seven_le, fun l4 g4 => ?_⟩
    replace W := W.new (o := .lst [.ref p16, .ref p18, .ref p19, .ref p20, .ref p21, .non, .int t]) g4
    refine ⟨l3, l4, _, _, rfl, rfl, W.sk _ _ upd_same, upd_same, c17, fun l5 g5 => ?_⟩
    -- one at the end
    refine ⟨_, rfl, .inl ⟨rfl, _, sqL_of upd_same⟩, _, rfl, l5, _, _, rfl, rfl, upd_same, c18, ?_⟩
    replace W := (W.new2 (o1 := .lst ([.ref p1, .ref p2, .ref p3, .ref p4, .ref p6, .ref p7, .ref p8] ++ [.ref p10, .ref p12, .ref p14] ++ [.ref p16, .ref p18, .ref p19, .ref p20, .ref p21, .non, .int t])) (o := .lst (([.ref p1, .ref p2, .ref p3, .ref p4, .ref p6, .ref p7, .ref p8] ++ [.ref p10, .ref p12, .ref p14] ++ [.ref p16, .ref p18, .ref p19, .ref p20, .ref p21, .non, .int t]) ++ [.ref pq])) g5).mark
    replace W := W.add (v := .ref pq) (fun G fx => oddP_of (share_odd fx dpos) fx.dq sq)
    -- eight more
    refine ⟨_, rfl, zero_le, fun p22 h22 => ?_⟩
    replace W := W.one (v := .ref p22) (o := .tup []) stP stO h22 (fun G fx => oddP_of (.many (sqT_of upd_same) (by simp)) (.tup (sqT_of upd_same) .nil) (sz_tup sz_nil))
    refine fun p23 h23 => ⟨_, rfl, _, rfl, upd_same, [(Sum.inl t, .ref pq)], rfl, (by show (1 : Nat) ≤ 15; decide), ?_⟩
    replace W := W.one2 (v := .ref p23) (o1 := .dK []) (o := .dK [(Sum.inl t, .ref pq)]) stP stO h23 (fun G fx => oddP_of (.kind (ki_dct upd_same) (by decide)) (.dct upd_same (.cons fx.dq .nil)) (sz_dct (szk_cons st sq szk_nil)))
    replace W := W.add (v := .str "") (fun G fx => oddP_of (.kind (ki_str _) (by decide)) (.str _) (sm_str (n := 0) (okS_of _) (by decide)).z)
    refine ⟨_, rfl, _, rfl, two_le, fun p24 h24 => ?_⟩
    replace W := W.one (v := .ref p24) (o := .tup [.ref pq, .int t]) stP stO h24 (fun G fx => oddP_of (.tick (sqT_of upd_same) (.inl ⟨"tuple", .inl (ki_tup fx.q), by decide⟩)) (.tup (sqT_of upd_same) (.cons fx.dq (.cons (.int _) .nil))) (sz_tup (sz_cons sq (sz_cons st sz_nil))))
    refine ⟨_, rfl, two_le, fun p25 h25 => ?_⟩
    replace W := W.aux (Fx' := Pqt K px pq t n d p25 [.int 1, .int 0]) (o := .tup [.int 1, .int 0]) stP stO h25 (fun G fx => ⟨fx, sqT_of upd_same⟩)
    refine ⟨two_le, fun p26 h26 => ?_⟩
    replace W := (W.one (v := .ref p26) (o := .tup [.int t, .ref p25]) (stT p25 [.int 1, .int 0]) stO h26 (fun G fx => oddP_of (.share (sqT_of upd_same) t0 (.low fx.2 (.inl (by decide)))) (.tup (sqT_of upd_same) (.cons (.int _) (.cons (.tup fx.2 (.cons (.int _) (.cons (.int _) .nil))) .nil))) (sz_tup (sz_cons st (sz_cons (sz_tup (sz_cons (s1' _ (by decide)) (sz_cons (s1' _ (by decide)) sz_nil))) sz_nil))))).imp (Fx' := Pq K px pq t n d) fun G h => h.1
    refine ⟨_, rfl, zero_le, fun p27 h27 => ?_⟩
    replace W := W.aux (Fx' := Pqt K px pq t n d p27 []) (o := .tup []) stP stO h27 (fun G fx => ⟨fx, sqT_of upd_same⟩)
    refine ⟨two_le, fun p28 h28 => ?_⟩
    replace W := (W.one (v := .ref p28) (o := .tup [.int t, .ref p27]) (stT p27 []) stO h28 (fun G fx => oddP_of (.share (sqT_of upd_same) t0 (.many fx.2 (by simp))) (.tup (sqT_of upd_same) (.cons (.int _) (.cons (.tup fx.2 .nil) .nil))) (sz_tup (sz_cons st (sz_cons (sz_tup sz_nil) sz_nil))))).imp (Fx' := Pq K px pq t n d) fun G h => h.1
    refine ⟨_, rfl, _, _, rfl, rfl, _, _, rfl, rfl, _, rfl, two_le, fun p29 h29 => ?_⟩
    replace W := W.one (v := .ref p29) (o := .tup [.int (0 - t - 1), .ref pq]) stP stO h29 (fun G fx => oddP_of (.tick (sqT_of upd_same) (.inr ⟨_, rfl, by omega⟩)) (.tup (sqT_of upd_same) (.cons (.int _) (.cons fx.dq .nil))) (sz_tup (sz_cons st1 (sz_cons sq sz_nil))))
    replace W := W.add (v := .bl false) (fun G fx => oddP_of (.kind (ki_bl _) (by decide)) (.bl _) (sm_bl _).z)
    refine ⟨eight_le, fun l6 g6 => ?_⟩
    replace W := W.new (o := .lst [.ref p22, .ref p23, .str "", .ref p24, .ref p26, .ref p28, .ref p29, .bl false]) g6
    refine ⟨l5, l6, _, _, rfl, rfl, W.sk _ _ upd_same, upd_same, c26, fun l7 g7 => ?_⟩
    replace W := (W.new (o := .lst (([.ref p1, .ref p2, .ref p3, .ref p4, .ref p6, .ref p7, .ref p8] ++ [.ref p10, .ref p12, .ref p14] ++ [.ref p16, .ref p18, .ref p19, .ref p20, .ref p21, .non, .int t]) ++ [.ref pq] ++ [.ref p22, .ref p23, .str "", .ref p24, .ref p26, .ref p28, .ref p29, .bl false])) g7).mark
    have l7b : l7 ≠ b := fun e => by subst e; have z := W.sr; rw [upd_same] at z; cases z
    refine ⟨_, rfl, _, rfl, b, s0, s1, s2, 26, rfl, W.sr, d0, by omega, e1, by decide, by decide, fun r u0 u2 i0 i1 j0 j1 => ?_⟩
    obtain ⟨v, hv, ha⟩ := at_any (xs := ([.ref p1, .ref p2, .ref p3, .ref p4, .ref p6, .ref p7, .ref p8] ++ [.ref p10, .ref p12, .ref p14] ++ [.ref p16, .ref p18, .ref p19, .ref p20, .ref p21, .non, .int t]) ++ [.ref pq] ++ [.ref p22, .ref p23, .str "", .ref p24, .ref p26, .ref p28, .ref p29, .bl false]) i0 (by simp only [List.length_append, List.length_cons, List.length_nil]; omega)
    obtain ⟨w2, w3⟩ := W.draw (o := .lst [.int u0, .int s1, .int u2])
    refine ⟨l7, _, _, _, rfl, rfl, sqL_of (w3 _ _ upd_same l7b), ha, ?_⟩
    exact hQ v _ u0 u2 (W.drawn v (by simp only [List.nil_append, List.cons_append] at hv ⊢; exact hv)) w2 upd_same j0 j1
end
end L05
set_option maxRecDepth 100000
set_option maxHeartbeats 4000000
namespace L05
open PySem PySem.Spec PyProof.Rows L2 Q7
section
variable {P : Program} {w : World} {K : PySem.W.Frag} {mg : Str → Option Value} {base : Heap}
/-! ### a lap -/
theorem dp_strs {H : Hp} : ∀ xs : List Str, DpAll K H (xs.map V.str) (xs.map PyData.str)
  | [] => .nil
  | x :: r => .cons (.str x) (dp_strs r)
theorem eqv_strs : ∀ xs : List Str, PyData.eqvAll (xs.map PyData.str) (xs.map PyData.str) = true
  | [] => by simp [PyData.eqvAll]
  | x :: r => by simp [PyData.eqvAll, PyData.eqv, eqv_strs r]
theorem no_strs {H : Hp} {p q : Addr} {Q : VK} (xs : List Str) (h1 : H p = some (.lst (xs.map V.str))) (h2 : H q = some (.lst (xs.map V.str))) (hQ : Q (.bl false) H) (hs : SeqAt.shaped (.list (xs.map PyData.str)) = true := by decide +kernel) : rNeD K (.ref p) (.ref q) H Q :=
  ⟨_, _, .lst (sqL_of h1) (dp_strs xs), .lst (sqL_of h2) (dp_strs xs), hs, hs, by rw [show PyData.eqv (.list (xs.map PyData.str)) (.list (xs.map PyData.str)) = true by simp only [PyData.eqv]; exact eqv_strs xs]; exact hQ⟩
theorem kv_sb {H H' : Hp} {b : Addr} {ys : List V} (hb : H b = some (.lst ys)) (s : Sb b H H') : TK H H' := fun a xs q => by
  rcases q with q | ⟨z, q⟩
  · exact .inl (s _ _ q (ne_of q hb (by intro z; cases z)))
  · exact .inr ⟨z, s _ _ q (ne_of q hb (by intro z; cases z))⟩
theorem RowAt.ne {C : Addr} {H H' : Hp} {v : V} {a : Rw} {b : Addr} {ys : List V} (h : RowAt K C H v a) (hb : H b = some (.lst ys)) (s : Sb b H H') : RowAt K C H' v a := by
  obtain ⟨x, dx, d, ks, e, h1, h2, h3, n⟩ := h
  exact ⟨x, dx, d, ks, e, s _ _ h1 (ne_of h1 hb (by intro z; cases z)), s _ _ h2 (ne_of h2 hb (by intro z; cases z)), kvF_tk h3 (kv_sb hb s), n⟩
/-- what is given, its row -/
structure Lp (K : PySem.W.Frag) (b gl : Addr) (gs : List V) (ps : Rw) (r : V) (H : Hp) : Prop where
  L : H gl = some (.lst gs)
  P : PrsV K H gs ps
  R : RA K H r (norm ps)
  gb : gl ≠ b
theorem Lp.same {b gl : Addr} {gs : List V} {ps : Rw} {r : V} {H H' : Hp} (h : Lp K b gl gs ps r H) (s : Same H H') : Lp K b gl gs ps r H' := ⟨s _ _ h.L, prsV_tk h.P (same_tk s), rowAt_same h.R s, h.gb⟩
theorem Lp.sb {b gl : Addr} {gs : List V} {ps : Rw} {r : V} {H H' : Hp} {ys : List V} (h : Lp K b gl gs ps r H) (hb : H b = some (.lst ys)) (s : Sb b H H') : Lp K b gl gs ps r H' := ⟨s _ _ h.L h.gb, prsV_tk h.P (kv_sb hb s), RowAt.ne h.R hb s, h.gb⟩
/-- good pairs, few and small -/
def Gl (K : PySem.W.Frag) (H : Hp) (xs : List V) : Prop := ∃ ps, PrsV K H xs ps ∧ (∀ p ∈ ps, 0 ≤ p.1 ∧ ShP p) ∧ ps.length ≤ 19
theorem gl_same {H H' : Hp} {xs : List V} (s : Same H H') (h : Gl K H xs) : Gl K H' xs := by
  obtain ⟨ps, P, r⟩ := h
  exact ⟨ps, prsV_tk P (same_tk s), r⟩
theorem gl_nil {H : Hp} : Gl K H [] := ⟨[], .nil, by simp, by simp⟩
theorem pSub {α β : Type} {R : α → β → Prop} : ∀ {xs : List α} {ys : List β}, Paired R xs ys → ∀ i j : Nat, Paired R ((xs.drop i).take j) ((ys.drop i).take j)
  | _, _, .nil, i, j => by simp; exact .nil
  | _, _, .cons r t, 0, 0 => .nil
  | _, _, .cons r t, 0, j + 1 => .cons r (by simpa using pSub t 0 j)
  | _, _, .cons r t, i + 1, j => by simpa using pSub t i j
theorem gl_cut {H : Hp} {xs : List V} (h : Gl K H xs) (lo hi : Option Int) : Gl K H (cutV xs lo hi) := by
  obtain ⟨ps, P, r, l⟩ := h
  unfold cutV
  refine ⟨_, pSub P _ _, fun p hp => r p (List.mem_of_mem_drop (List.mem_of_mem_take hp)), ?_⟩
  rw [List.length_take, List.length_drop]
  omega
theorem gl_jd {H : Hp} {xs : List V} (h : Gl K H xs) : Paired (Jd K H) xs (List.replicate xs.length true) := by
  obtain ⟨ps, P, r, -⟩ := h
  induction P with
  | nil => exact .nil
  | @cons v t vs ts h1 _ ih => exact .cons (.inl ⟨rfl, t, h1, (r t List.mem_cons_self).1⟩) (ih fun p hp => r p (List.mem_cons_of_mem _ hp))
theorem gl_len {H : Hp} {xs : List V} (h : Gl K H xs) : xs.length ≤ 19 := by
  obtain ⟨ps, P, _, l⟩ := h
  rw [pLen P]
  exact l
theorem gl_dp {H : Hp} {xs : List V} (h : Gl K H xs) : ∃ ds, DpWs K H xs ds ∧ ds.length ≤ 19 ∧ ∀ d ∈ ds, Sz8 60 6 d := by
  obtain ⟨ps, P, r, l⟩ := h
  refine ⟨_, dpWs_prs P, by rw [List.length_map]; exact l, fun d hd => ?_⟩
  obtain ⟨p, hp, rfl⟩ := List.mem_map.mp hd
  exact (sz_pr (r p hp).2).mono
theorem mid_jd {H : Hp} {xs ys : List V} {v : V} (h1 : Gl K H xs) (h2 : Gl K H ys) (o : OddP K H v) : ∃ bs, Paired (Jd K H) (xs ++ [v] ++ ys) bs ∧ bs.all id = false := by
  refine ⟨_, pApp (pApp (gl_jd h1) (.cons (.inr ⟨rfl, o.1⟩) .nil)) (gl_jd h2), ?_⟩
  simp
theorem mid_dp {H : Hp} {xs ys : List V} {v : V} (h1 : Gl K H xs) (h2 : Gl K H ys) (o : OddP K H v) : ∃ ds, DpWs K H (xs ++ [v] ++ ys) ds ∧ Sz8s 2400 6 ds := by
  obtain ⟨d1, p1, l1, z1⟩ := gl_dp h1
  obtain ⟨d2, p2, l2, z2⟩ := gl_dp h2
  obtain ⟨d, p, z⟩ := o.2
  refine ⟨_, dpWs_app (dpWs_app p1 (.cons p .nil)) p2, ?_⟩
  have h : ∀ e ∈ d1 ++ [d] ++ d2, Sz8 60 6 e := by
    intro e he
    simp only [List.mem_append, List.mem_cons, List.not_mem_nil, or_false] at he
    rcases he with (he | rfl) | he
    · exact z1 e he
    · exact z
    · exact z2 e he
  refine (sz_all h).mono ?_ (Nat.le_refl _)
  simp only [List.length_append, List.length_cons, List.length_nil]
  omega
/-- a thing that makes no row, and can be shown -/
def Th (K : PySem.W.Frag) (H : Hp) (v : V) : Prop := (NoRs K H v ∨ NoRt K H v) ∧ ∃ d, DpW K H v d ∧ Shw d
theorem th_same {H H' : Hp} {v : V} (s : Same H H') (h : Th K H v) : Th K H' v := ⟨h.1.elim (fun z => .inl (noRs_same s z)) fun z => .inr (noRt_same s z), by obtain ⟨d, p, z⟩ := h.2; exact ⟨d, dpW_same s p, z⟩⟩
theorem th_list {H : Hp} {l : Addr} {xs ys : List V} {v : V} (S : SqL K H l (xs ++ [v] ++ ys)) (h1 : Gl K H xs) (h2 : Gl K H ys) (o : OddP K H v) : Th K H (.ref l) := by
  obtain ⟨bs, J, hb⟩ := mid_jd h1 h2 o
  obtain ⟨ds, D, z⟩ := mid_dp h1 h2 o
  have := gl_len h1
  have := gl_len h2
  exact ⟨.inl (.inr (.inr ⟨l, _, bs, rfl, S, J, hb, by simp only [List.length_append, List.length_cons, List.length_nil]; omega⟩)), _, .lst S D, (sz_lst z).shw⟩
theorem th_tup {H : Hp} {l : Addr} {xs ys : List V} {v : V} (S : SqT K H l (xs ++ [v] ++ ys)) (h1 : Gl K H xs) (h2 : Gl K H ys) (o : OddP K H v) : Th K H (.ref l) := by
  obtain ⟨bs, J, hb⟩ := mid_jd h1 h2 o
  obtain ⟨ds, D, z⟩ := mid_dp h1 h2 o
  have := gl_len h1
  have := gl_len h2
  exact ⟨.inr ⟨l, _, bs, rfl, S, J, hb, by simp only [List.length_append, List.length_cons, List.length_nil]; omega⟩, _, .tup S D, (sz_tup z).shw⟩
theorem th_kind {H : Hp} {v : V} {t : String} {d : PyData} {n m : Nat} (k : Ki K H v t) (h1 : t ≠ "list") (h2 : t ≠ "tuple") (p : DpW K H v d) (z : Sz8 n m d) (hn : n ≤ 8000 := by decide) (hm : m ≤ 40 := by decide) : Th K H v := ⟨.inl (.inl ⟨t, k, h1, h2⟩), d, p, z.shw hn hm⟩
theorem odd_int {H : Hp} {i : Int} (h : ShI i) : OddP K H (.int i) := oddP_of (.kind (ki_int i) (by decide)) (.int i) (sm_int h).z
/-- the dict of such pairs -/
theorem prs_kvs {H : Hp} : ∀ {xs : List V} {ps : Rw}, PrsV K H xs ps → ∃ (as : List Addr) (kvs : List (Key × V)), xs = as.map V.ref ∧ Paired (fun p kv => SqT K H p [kV kv.1, kv.2]) as kvs ∧ KvF K H kvs ps
  | _, _, .nil => ⟨[], [], rfl, .nil, .nil⟩
  | _, _, .cons (b := t) h r => by
    obtain ⟨as, kvs, e, p, k⟩ := prs_kvs r
    obtain ⟨a, x, rfl, S, f⟩ := h
    exact ⟨a :: as, (Sum.inl t.1, x) :: kvs, by rw [e]; rfl, .cons S p, .cons ⟨rfl, f⟩ k⟩
/-- entries that can be shown -/
def En (K : PySem.W.Frag) (H : Hp) (kv : Key × V) : Prop := ∃ i d, kv.1 = Sum.inl i ∧ ShI i ∧ DpW K H kv.2 d ∧ Sz8 4 1 d
theorem put_en {H : Hp} {k : Key} {v : V} {kvs : List (Key × V)} (h : ∀ q ∈ kvs, En K H q) (e : En K H (k, v)) : ∀ q ∈ putK kvs k v, En K H q := by
  unfold putK
  intro q hq
  split at hq
  · obtain ⟨p, hp, rfl⟩ := List.mem_map.mp hq
    split
    · rename_i c
      obtain ⟨i, d, e1, r⟩ := e
      exact ⟨i, d, by rw [← e1]; exact c, r⟩
    · exact h p hp
  · rcases List.mem_append.mp hq with hq | hq
    · exact h q hq
    · rw [List.mem_singleton] at hq
      subst hq
      exact e
theorem merge_en {H : Hp} : ∀ {more kvs : List (Key × V)}, (∀ q ∈ more, En K H q) → (∀ q ∈ kvs, En K H q) → ∀ q ∈ mergeK kvs more, En K H q
  | [], _, _, h => h
  | p :: more, kvs, h1, h => merge_en (more := more) (kvs := putK kvs p.1 p.2) (fun q hq => h1 q (List.mem_cons_of_mem _ hq)) (put_en h (h1 p List.mem_cons_self))
theorem en_dp {H : Hp} : ∀ {kvs : List (Key × V)}, (∀ q ∈ kvs, En K H q) → ∃ es, DpWk K H kvs es ∧ es.length = kvs.length ∧ ∀ p ∈ es, Sz8 1 0 p.1 ∧ Sz8 4 1 p.2
  | [], _ => ⟨[], .nil, rfl, by simp⟩
  | (k, v) :: kvs, h => by
    obtain ⟨es, D, l, z⟩ := en_dp (kvs := kvs) fun q hq => h q (List.mem_cons_of_mem _ hq)
    obtain ⟨i, d, e, si, p, sz⟩ := h (k, v) List.mem_cons_self
    simp only at e p
    subst e
    refine ⟨(kD (Sum.inl i), d) :: es, .cons p D, by simp only [List.length_cons, l], fun q hq => ?_⟩
    rcases List.mem_cons.mp hq with rfl | hq
    · exact ⟨(sm_int si).z, sz⟩
    · exact z q hq
theorem kvf_en {H : Hp} {kvs : List (Key × V)} {ps : Rw} (h : KvF K H kvs ps) (r : ∀ p ∈ ps, 0 ≤ p.1 ∧ ShP p) : ∀ q ∈ kvs, En K H q := by
  induction h with
  | nil => intro q hq; simp at hq
  | @cons q p qs ps' h1 _ ih =>
    intro q' hq
    rcases List.mem_cons.mp hq with rfl | hq
    · obtain ⟨_, s1, s2, s3⟩ := r p List.mem_cons_self
      exact ⟨p.1, fr p.2, h1.1, s1, dpW_fr h1.2, sz_fr s2 s3⟩
    · exact ih (fun p hp => r p (List.mem_cons_of_mem _ hp)) q' hq
theorem th_dct {H : Hp} {d : Addr} {kvs : List (Key × V)} (hd : H d = some (.dK kvs)) (h : ∀ q ∈ kvs, En K H q) (l : kvs.length ≤ 19) : Th K H (.ref d) := by
  obtain ⟨es, D, le, z⟩ := en_dp h
  refine th_kind (ki_dct hd) (by decide) (by decide) (.dct hd D) (sz_dct ((szk_all z))) ?_ (by decide)
  rw [le]
  omega
theorem at_nat {xs : List V} {i : Int} (h0 : 0 ≤ i) (h1 : i < (xs.length : Int)) : atI xs i = xs[i.toNat]? := by
  unfold atI ixN
  simp only [h0, h1, if_true, true_and, and_self, if_pos, Int.not_lt.mpr h0, if_false]
  rfl
theorem en_same {H H' : Hp} {q : Key × V} (s : Same H H') (h : En K H q) : En K H' q := by
  obtain ⟨i, d, e, si, p, z⟩ := h
  exact ⟨i, d, e, si, dpW_same s p, z⟩
theorem mergeK_len : ∀ (more kvs : List (Key × V)), (mergeK kvs more).length ≤ kvs.length + more.length
  | [], kvs => Nat.le_add_right _ _
  | p :: more, kvs => by
    have h := mergeK_len more (putK kvs p.1 p.2)
    have h2 := length_putK kvs p.1 p.2
    rw [List.length_cons]
    exact Nat.le_trans h (by omega)
theorem merge_len {kvs : List (Key × V)} : (mergeK [] kvs).length ≤ kvs.length := by
  have := mergeK_len kvs []
  simpa using this
theorem shI_small {i : Int} (h : i.natAbs < 2 ^ 200) : ShI i := up_pow h (by decide)
theorem th_non {H : Hp} : Th K H .non := th_kind ki_non (by decide) (by decide) .non sm_non.z
theorem th_bl {H : Hp} {b : Bool} : Th K H (.bl b) := th_kind (ki_bl b) (by decide) (by decide) (.bl b) (sm_bl b).z
theorem th_str {H : Hp} {x : Str} (h : (PyData.str x).showable = true) (h2 : (PyData.str x).leavesShort 1921 = true) (h3 : x.cps.size ≤ 1) : Th K H (.str x) := th_kind (ki_str x) (by decide) (by decide) (.str x) (n := 1) (m := 0) ⟨h, h2, by simp only [PyData.bulk]; exact h3, by simp [PyData.depth]⟩
theorem noRow_same {H H' : Hp} {v : V} (s : Same H H') (h : NoRow K H v) : NoRow K H' v := by
  obtain ⟨t, k⟩ := h
  exact ⟨t, ki_same s k⟩
theorem gw59 : Gw [(10 ^ (59 : Int).toNat, 0)] := Gw.of (D := 1) (M := 0) (T := 10 ^ 59) (L := 1) ⟨fun p hp => by cases List.mem_singleton.mp hp; exact ND.zero 1, fun p hp => by cases List.mem_singleton.mp hp; decide +kernel, fun p hp => by cases List.mem_singleton.mp hp; decide +kernel, Nat.le_refl _⟩ (by decide) (Nat.one_lt_two_pow (by decide)) (Nat.two_pow_pos _) (by decide)
theorem iteT' {k : Bool} {X Y : Prop} (e : k = true) (h : X) : if k = true then X else Y := by subst e; exact iteT h
def oneOver (n : Nat) (h : n ≠ 0) : Rat := ⟨1, n, h, by simp [Nat.Coprime]⟩
theorem oneOver_div (n : Nat) (h : n ≠ 0) : oneOver n h = Rat.divInt 1 (n : Int) := (Rat.num_divInt_den (oneOver n h)).symm
/-- what is given of a lap, with its last pair -/
theorem given_gd {D M : Nat} {ps : Rw} (g : Gd D M TT 18 ps) (hD : 0 < D) (h1 : D < 2 ^ 400) (h2 : M < 2 ^ 440) {t : Int} (t0 : 0 ≤ t) (t1 : t < 9) {n : Nat} (n0 : n ≠ 0) (n1 : n ≤ 10) :
    ∃ D' M', Gd D' M' TT 19 (ps ++ [(t, oneOver n n0)]) ∧ 0 < D' ∧ D' < 2 ^ 404 ∧ M' < 2 ^ 445 := by
  have g1 := g.scale (k := n) (by omega)
  have nd := nd_div (n := 1) (d := (n : Int)) (D := D) (by omega) hD
  rw [← oneOver_div n n0] at nd
  have g2 : Gd (D * n) (M * n + D) TT 1 [(t, oneOver n n0)] := ⟨fun p hp => by
    cases List.mem_singleton.mp hp
    refine ND.mono (M := D) ?_ (by omega)
    simpa using nd, fun p hp => by cases List.mem_singleton.mp hp; exact t0, fun p hp => by cases List.mem_singleton.mp hp; show t ≤ ((10 ^ 58 : Nat) : Int); exact Int.le_trans (Int.le_of_lt t1) (by decide), Nat.le_refl _⟩
  have hn : n < 2 ^ 4 := by omega
  have b1 : D * n < 2 ^ 404 := mul_lt_pow (k := 404) h1 hn (by decide)
  have b2 : M * n < 2 ^ 444 := mul_lt_pow (k := 444) h2 hn (by decide)
  have b3 : (2 ^ 404 : Nat) ≤ 2 ^ 444 := Nat.pow_le_pow_right (by decide) (by decide)
  refine ⟨D * n, M * n + D, (g1.mono (by omega) (Nat.le_refl _) (Nat.le_refl _)).app g2, Nat.mul_pos hD (by omega), b1, ?_⟩
  have b4 : D < 2 ^ 444 := Nat.lt_of_lt_of_le h1 (Nat.pow_le_pow_right (by decide) (by decide))
  have b5 : (2 ^ 445 : Nat) = 2 * 2 ^ 444 := by rw [Nat.pow_succ, Nat.mul_comm]
  rw [b5]
  omega
theorem gl_rng {D M : Nat} {ps : Rw} (g : Gd D M TT 19 ps) (h0 : 0 < D) (h1 : D < 2 ^ 404) (h2 : M < 2 ^ 450) : ∀ p ∈ ps, 0 ≤ p.1 ∧ ShP p := fun p hp => by
  refine ⟨g.lo p hp, ?_⟩
  have hb : B 500 p.2 := (g.nd p hp).B h0 (Nat.lt_of_lt_of_le h1 (Nat.pow_le_pow_right (by decide) (by decide))) (Nat.lt_of_lt_of_le h2 (Nat.pow_le_pow_right (by decide) (by decide)))
  have a1 := g.lo p hp
  have a2 : p.1 ≤ ((10 ^ 58 : Nat) : Int) := g.hi p hp
  have a3 : (10 ^ 58 : Nat) < 2 ^ 200 := by decide
  refine ⟨up_pow (n := 200) (show p.1.natAbs < 2 ^ 200 by omega) (by decide), up_pow hb.1 (by decide), ?_⟩
  unfold ShI
  rw [Int.natAbs_natCast]
  exact up_pow hb.2 (by decide)
theorem gd_gl {D M : Nat} {ps : Rw} {xs : List V} {H : Hp} (g : Gd D M TT 19 ps) (h0 : 0 < D) (h1 : D < 2 ^ 404) (h2 : M < 2 ^ 445) (P : PrsV K H xs ps) : Gl K H xs := ⟨ps, P, gl_rng g h0 h1 (Nat.lt_of_lt_of_le h2 (Nat.pow_le_pow_right (by decide) (by decide))), g.len⟩
def spHolds (K : PySem.W.Frag) : Sp := fun vs H Q _ => ∃ bs s0 s1 s2, vs = [.ref bs] ∧ SrcAt H bs s0 s1 s2 ∧ 0 ≤ s2 ∧ s2 < 2 ^ 34 ∧ s1.natAbs < 2 ^ 150 ∧ ∀ H', Sb bs H H' → Q (.bl true) H'
theorem ok__law_holds (T : Txt K mg) : FnG P w K mg base 8 (He.ga K "_law_holds") T.fd__law_holds ["source"] (spHolds K) := by
  refine okG T.F__law_holds sc__law_holds (fun vs H Q E h => ?_) (fun cdv A outer s H vs Q E g hr h => ⟨_, PSs.nox
    (pss_cons (ps_for PassesOwn.never rfl (pi_range1 (by rfl) T.m_range (pa_cons pe_int pa_nil)) (pg_name (i := 1) sc__law_holds.nd rfl (.inl rfl)) (pss_cons (ps_set (i := 2) sc__law_holds.nd rfl (.inl rfl) (pe_op op_cat (pe_call (ok__law_pairs T) (hr.mono (by decide)) (by rfl) T.g__law_pairs T.F__law_pairs.kp T.b__law_pairs .nil pass0 (pa_cons (pv 0) (pa_cons pe_int pa_nil))) (pe_lst (pa_cons (pe_tup (pa_cons (pe_call (ok__law_draw T) (hr.mono (by decide)) (by rfl) T.g__law_draw T.F__law_draw.kp T.b__law_draw .nil pass0 (pa_cons (pv 0) (pa_cons pe_int pa_nil))) (pa_cons (pe_tup (pa_cons pe_int (pa_cons (pe_op op_add pe_int (pe_call (ok__law_draw T) (hr.mono (by decide)) (by rfl) T.g__law_draw T.F__law_draw.kp T.b__law_draw .nil pass0 (pa_cons (pv 0) (pa_cons pe_int pa_nil)))) pa_nil))) pa_nil))) pa_nil))))
      (pss_cons (ps_asg (pe_tup (pa_cons (pe_call (ok__law_draw T) (hr.mono (by decide)) (by rfl) T.g__law_draw T.F__law_draw.kp T.b__law_draw .nil pass0 (pa_cons (pv 0) (pa_cons (pe_callB call_len_seq (by rfl) T.m_len (by decide +kernel) (pa_cons (pv 2) pa_nil)) pa_nil))) (pa_cons (pe_make T.mk_Row (ok_Row___init__ T) (hr.mono (by decide)) (by rfl) T.g_Row T.b_Row___init__ .nil pass0 (pa_cons (pv 2) pa_nil)) pa_nil))) (pg_tup rfl (pgs_cons (pg_name (i := 3) sc__law_holds.nd rfl (.inl rfl)) (pgs_cons (pg_name (i := 4) sc__law_holds.nd rfl (.inr rfl)) pgs_nil))))
      (pss_cons (ps_set (i := 5) sc__law_holds.nd rfl (.inl rfl) (pe_call (ok__law_bad_pair T) (hr.mono (by decide)) (by rfl) T.g__law_bad_pair T.F__law_bad_pair.kp T.b__law_bad_pair .nil pass0 (pa_cons (pv 0) (pa_cons (pe_ix ix_list (pv 2) (pv 3) (fun _ _ => rfl)) pa_nil))))
      (pss_cons (ps_set (i := 6) sc__law_holds.nd rfl (.inl rfl) (pe_lst (pa_cons (pe_op op_cat (pe_op op_cat (pe_slice sl_list (pv 2) po_none (po_some (pv 3))) (pe_lst (pa_cons (pv 5) pa_nil))) (pe_slice sl_list (pv 2) (po_some (pe_op op_add (pv 3) pe_int)) po_none)) (pa_cons (pe_callTy call_tuple_of (by rfl) T.m_tuple (by decide +kernel) (pa_cons (pe_op op_cat (pe_op op_cat (pe_slice sl_list (pv 2) po_none (po_some (pv 3))) (pe_lst (pa_cons (pv 5) pa_nil))) (pe_slice sl_list (pv 2) (po_some (pv 3)) po_none)) pa_nil)) (pa_cons (pe_op op_cat (pv 2) (pe_lst (pa_cons (pv 5) pa_nil))) (pa_cons (pe_lst (pa_cons (pv 5) pa_nil)) pa_nil))))))
      (pss_cons (ps_set (i := 6) sc__law_holds.nd rfl (.inl rfl) (pe_op op_cat (pv 6) (pe_lst (pa_cons pe_non (pa_cons pe_int (pa_cons pe_bl (pa_cons pe_str (pa_cons pe_str (pa_cons pe_dnewK (pa_cons (pe_callTy (call_dictP rfl) (by rfl) T.m_dict (by decide +kernel) (pa_cons (pv 2) pa_nil)) (pa_cons (pe_tup (pa_cons pe_int pa_nil)) (pa_cons (pe_lst (pa_cons pe_int pa_nil)) pa_nil))))))))))))
      (pss_cons (ps_for PassesOwn.never rfl (pi_list (pv 6)) (pg_name (i := 7) sc__law_holds.nd rfl (.inr rfl)) (pss_cons (ps_set (i := 8) sc__law_holds.nd rfl (.inl rfl) (pe_callB (call_reprW T.sys g (un70 hr)) (by rfl) T.m_repr (by decide +kernel) (pa_cons (pv 7) pa_nil)))
      (pss_one (ps_if (PW.pt (pw_or (pt_cmpR (op_neD hr.units) (pe_lc (own := [("door", 10)]) rfl sc__law_holds.nd (pi_range1 (by rfl) T.m_range (pa_cons pe_int pa_nil)) (blkOk_by (N := ["source", "lap", "given", "at", "row", "bad", "things", "thing", "held", "strange", "door"]) (sc := defScope s__law_holds) (by decide +kernel)) (fun _ _ _ _ _ => (pg_name (i := 10) sc__law_holds.nd rfl (.inl rfl) (hf := .inr rfl))) (fun _ _ _ _ _ => pts_nil) (fun _ _ _ _ _ => (pe_call (ok__law_told T) (hr.mono (by decide)) (by rfl) T.g__law_told T.F__law_told.kp T.b__law_told .nil pass0 (pa_cons (pv 10) (pa_cons (pv 4) (pa_cons (pv 7) pa_nil)))))) (pe_op op_rep (pe_lst (pa_cons pe_str pa_nil)) pe_int) (nomark _)) (pw_or1 (pt_cmpR op_ne (pe_callB (call_reprW T.sys g (un70 hr)) (by rfl) T.m_repr (by decide +kernel) (pa_cons (pv 7) pa_nil)) (pv 8) (nomark _))))) (pss_one (ps_ret pe_bl)) pss_nil))))
      (pss_cons (ps_if (pt_cmpR (op_neD hr.units) (pe_lc (own := [("door", 10)]) rfl sc__law_holds.nd (pi_range1 (by rfl) T.m_range (pa_cons pe_int pa_nil)) (blkOk_by (N := ["source", "lap", "given", "at", "row", "bad", "things", "thing", "held", "strange", "door"]) (sc := defScope s__law_holds) (by decide +kernel)) (fun _ _ _ _ _ => (pg_name (i := 10) sc__law_holds.nd rfl (.inl rfl) (hf := .inr rfl))) (fun _ _ _ _ _ => pts_nil) (fun _ _ _ _ _ => (pe_call (ok__law_told T) (hr.mono (by decide)) (by rfl) T.g__law_told T.F__law_told.kp T.b__law_told .nil pass0 (pa_cons (pv 10) (pa_cons (pv 4) (pa_cons (pv 4) pa_nil)))))) (pe_op op_rep (pe_lst (pa_cons pe_str pa_nil)) pe_int) (nomark _)) (pss_one (ps_ret pe_bl)) pss_nil)
      (pss_cons (ps_set (i := 9) sc__law_holds.nd rfl (.inr rfl) (pe_ix ix_list (pe_lst (pa_cons pe_non (pa_cons pe_int (pa_cons pe_int (pa_cons pe_bl (pa_cons (pe_tup (pa_cons pe_int (pa_cons pe_int pa_nil))) (pa_cons (pe_lst pa_nil) (pa_cons (pv 2) (pa_cons pe_str (pa_cons pe_dnewK pa_nil)))))))))) (pe_call (ok__law_draw T) (hr.mono (by decide)) (by rfl) T.g__law_draw T.F__law_draw.kp T.b__law_draw .nil pass0 (pa_cons (pv 0) (pa_cons pe_int pa_nil))) (fun _ _ => rfl)))
      (pss_cons (ps_if (pt_cmpR (op_neD hr.units) (pe_lc (own := [("door", 10)]) rfl sc__law_holds.nd (pi_tup (pe_tup (pa_cons pe_int (pa_cons pe_int pa_nil)))) (blkOk_by (N := ["source", "lap", "given", "at", "row", "bad", "things", "thing", "held", "strange", "door"]) (sc := defScope s__law_holds) (by decide +kernel)) (fun _ _ _ _ _ => (pg_name (i := 10) sc__law_holds.nd rfl (.inl rfl) (hf := .inr rfl))) (fun _ _ _ _ _ => pts_nil) (fun _ _ _ _ _ => (pe_call (ok__law_told T) (hr.mono (by decide)) (by rfl) T.g__law_told T.F__law_told.kp T.b__law_told .nil pass0 (pa_cons (pv 10) (pa_cons (pv 4) (pa_cons (pv 9) pa_nil)))))) (pe_op op_rep (pe_lst (pa_cons pe_str pa_nil)) pe_int) (nomark _)) (pss_one (ps_ret pe_bl)) pss_nil)
      (pss_cons (ps_if (pt_cmpR (op_neD hr.units) (pe_lc (own := [("door", 10)]) rfl sc__law_holds.nd (pi_tup (pe_tup (pa_cons pe_int (pa_cons pe_int (pa_cons pe_int (pa_cons pe_int pa_nil)))))) (blkOk_by (N := ["source", "lap", "given", "at", "row", "bad", "things", "thing", "held", "strange", "door"]) (sc := defScope s__law_holds) (by decide +kernel)) (fun _ _ _ _ _ => (pg_name (i := 10) sc__law_holds.nd rfl (.inl rfl) (hf := .inr rfl))) (fun _ _ _ _ _ => pts_nil) (fun _ _ _ _ _ => (pe_call (ok__law_told T) (hr.mono (by decide)) (by rfl) T.g__law_told T.F__law_told.kp T.b__law_told .nil pass0 (pa_cons (pv 10) (pa_cons (pv 4) (pa_cons pe_int pa_nil)))))) (pe_op op_rep (pe_lst (pa_cons pe_str pa_nil)) pe_int) (nomark _)) (pss_one (ps_ret pe_bl)) pss_nil)
      (pss_cons (ps_for PassesOwn.never rfl (pi_list (pe_lst (pa_cons pe_non (pa_cons (pe_un un_neg pe_int) (pa_cons (pe_op op_sub pe_int (pe_op op_pow pe_int pe_int)) (pa_cons pe_bl (pa_cons pe_bl (pa_cons pe_str (pa_cons (pe_tup (pa_cons pe_int pa_nil)) (pa_cons (pe_lst pa_nil) (pa_cons pe_dnewK (pa_cons (pe_tup (pa_cons pe_int (pa_cons pe_int pa_nil))) (pa_cons (pv 4) pa_nil))))))))))))) (pg_name (i := 7) sc__law_holds.nd rfl (.inr rfl)) (pss_one (ps_if (pt_cmpR (op_neD hr.units) (pe_lc (own := [("door", 10)]) rfl sc__law_holds.nd (pi_tup (pe_tup (pa_cons pe_int (pa_cons pe_int (pa_cons pe_int (pa_cons pe_int pa_nil)))))) (blkOk_by (N := ["source", "lap", "given", "at", "row", "bad", "things", "thing", "held", "strange", "door"]) (sc := defScope s__law_holds) (by decide +kernel)) (fun _ _ _ _ _ => (pg_name (i := 10) sc__law_holds.nd rfl (.inl rfl) (hf := .inr rfl))) (fun _ _ _ _ _ => pts_nil) (fun _ _ _ _ _ => (pe_call (ok__law_told T) (hr.mono (by decide)) (by rfl) T.g__law_told T.F__law_told.kp T.b__law_told .nil pass0 (pa_cons (pv 10) (pa_cons (pv 4) (pa_cons (pv 7) pa_nil)))))) (pe_op op_rep (pe_lst (pa_cons pe_str pa_nil)) pe_int) (nomark _)) (pss_one (ps_ret pe_bl)) pss_nil)))
      (pss_cons (ps_if (pt_cmpR op_ne (pe_callB (call_reprW T.sys g (un70 hr)) (by rfl) T.m_repr (by decide +kernel) (pa_cons (pe_meth0 (pv 4) T.cl_Row T.me_Row_pairs (ok_Row_pairs T) (hr.mono (by decide)) T.b_Row_pairs .nil pass0) pa_nil)) (pe_callB (call_reprW T.sys g (un70 hr)) (by rfl) T.m_repr (by decide +kernel) (pa_cons (pe_call (ok__law_sums T) (hr.mono (by decide)) (by rfl) T.g__law_sums T.F__law_sums.kp T.b__law_sums .nil pass0 (pa_cons (pv 2) pa_nil)) pa_nil)) (nomark _)) (pss_one (ps_ret pe_bl)) pss_nil)
      (pss_one (ps_if (PW.pt (pw_or (pt_cmpR op_ne (pe_call (ok__law_told T) (hr.mono (by decide)) (by rfl) T.g__law_told T.F__law_told.kp T.b__law_told .nil pass0 (pa_cons pe_int (pa_cons (pv 4) (pa_cons (pv 4) pa_nil)))) pe_str (nomark _)) (pw_or1 (pt_cmpR op_ne (pe_call (ok__law_told T) (hr.mono (by decide)) (by rfl) T.g__law_told T.F__law_told.kp T.b__law_told .nil pass0 (pa_cons pe_int (pa_cons (pv 4) (pa_cons (pe_make0 T.mk_Row (ok_Row___init___T T) (hr.mono (by decide)) (by rfl) T.g_Row T.bd_Row___init__ T.d_Row___init__ pass0) pa_nil)))) pe_str (nomark _))))) (pss_one (ps_ret pe_bl)) pss_nil)))))))))))))))
      (pss_one (ps_ret (pe_and (pe_cmpR op_eq (pe_call (ok__law_told T) (hr.mono (by decide)) (by rfl) T.g__law_told T.F__law_told.kp T.b__law_told .nil pass0 (pa_cons pe_int (pa_cons pe_non (pa_cons (pe_tup pa_nil) pa_nil)))) pe_str (nomark _)) (pe_one (pe_cmpR op_eq (pe_call (ok__law_told T) (hr.mono (by decide)) (by rfl) T.g__law_told T.F__law_told.kp T.b__law_told .nil pass0 (pa_cons pe_int (pa_cons pe_non (pa_cons (pe_lst (pa_cons (pe_tup (pa_cons (pe_op op_pow pe_int pe_int) (pa_cons (pe_tup (pa_cons pe_int (pa_cons pe_int pa_nil))) pa_nil))) pa_nil)) pa_nil)))) pe_str (nomark _))))))), ?_⟩)
  · obtain ⟨bs, s0, s1, s2, rfl, _⟩ := h
    rfl
  · obtain ⟨b, s0, s1, s2, rfl, hs, d0, d1, e1, hQ⟩ := h
    have l64 := line22
    have one_le : 1 ≤ sizeLine := by decide
    have nine_le : 9 ≤ sizeLine := by decide
    have four_le : 4 ≤ sizeLine := by decide
    refine ⟨_, rfl, by decide, by decide, ?_⟩
    refine for_range (lo := 0) (n := (8 : Int).toNat) (fun i σ H' => Sb b H H' ∧ ∃ t0 t2, SrcAt H' b t0 s1 t2 ∧ 0 ≤ t2 ∧ t2 ≤ s2 + 60 * (i : Int) ∧ ∃ o1 o2 o3 o4 o5 o6 o7 o8 o9 o10, σ = [some (.ref b), o1, o2, o3, o4, o5, o6, o7, o8, o9, o10]) ⟨.of (Same.refl _), s0, s2, hs, d0, by omega, _, _, _, _, _, _, _, _, _, _, rfl⟩ ?_ ?_
    · rintro i σ H' hi8' ⟨sb, t0, t2, hs, j0, j1, o1, o2, o3, o4, o5, o6, o7, o8, o9, o10, rfl⟩
      have hi8 : i < 8 := hi8'
      -- given
      refine ⟨_, rfl, b, t0, s1, t2, rfl, hs, by omega, by omega, e1, fun p1 xs1 ps1 H1 u0 u2 D1 M1 sb1 hs1 k0 k1 np1 hp1 P1 g1 gD1 gE1 gM1 kb1 => ?_⟩
      refine ⟨_, rfl, b, u0, s1, u2, 9, rfl, hs1, k0, by omega, e1, by decide, by decide, fun t w0 w2 i0 i1 m0 m1 => ?_⟩
      refine ⟨_, rfl, b, w0, s1, w2, 9, rfl, upd_same, by omega, by omega, e1, by decide, by decide, fun d y0 y2 i2 i3 n0 n1 => ?_⟩
      have sbY : Sb b H1 _ := (Sb.upd (o := .lst [.int w0, .int s1, .int w2])).trans (Sb.upd (o := .lst [.int y0, .int s1, .int y2]))
      have hsY : SrcAt (upd (upd H1 b (.lst [.int w0, .int s1, .int w2])) b (.lst [.int y0, .int s1, .int y2])) b y0 s1 y2 := upd_same
      generalize upd (upd H1 b (.lst [.int w0, .int s1, .int w2])) b (.lst [.int y0, .int s1, .int y2]) = HY at *
      have p1b : p1 ≠ b := (ne_of_none hs np1).symm
      replace hp1 := sbY _ _ hp1 p1b
      replace P1 := prsV_tk P1 (kv_sb hs1 sbY)
      replace sb := (sb.trans sb1).trans sbY
      clear sb1 sbY hs1 hs
      have xl1 : xs1.length ≤ 18 := by rw [pLen P1]; exact g1.len
      refine ⟨_, _, rfl, rfl, ?_⟩
      dsimp only
      generalize hn : 2 + d = m at *
      obtain ⟨n, rfl⟩ : ∃ n : Nat, m = (n : Int) := ⟨m.toNat, by omega⟩
      refine ⟨two_le, fun p2 hp2 => ?_⟩
      have q1 := same_new (o := .tup [.int 1, .int (n : Int)]) hp2
      refine ⟨two_le, fun p3 hp3 => ?_⟩
      have q2 := same_new (o := .tup [.int t, .ref p2]) hp3
      refine ⟨one_le, fun p4 hp4 => ?_⟩
      have q3 := same_new (o := .lst [.ref p3]) hp4
      refine ⟨p1, p4, _, _, rfl, rfl, (q1.trans (q2.trans q3)) _ _ hp1, upd_same, by simp only [List.length_cons, List.length_nil]; omega, fun gl hgl => ?_⟩
      have q4 := same_new (o := .lst (xs1 ++ [.ref p3])) hgl
      obtain ⟨D, M, gg, gD, gE, gM⟩ := given_gd g1 gD1 gE1 gM1 i0 i1 (n := n) (by omega) (by omega)
      have fr2 : FrV K (upd HY p2 (.tup [.int 1, .int (n : Int)])) (.ref p2) (oneOver n (by omega)) := ⟨p2, rfl, sqT_of upd_same⟩
      have pr3 : PrV K (upd (upd HY p2 (.tup [.int 1, .int (n : Int)])) p3 (.tup [.int t, .ref p2])) (.ref p3) (t, oneOver n (by omega)) := ⟨p3, _, rfl, sqT_of upd_same, frV_same fr2 q2⟩
      have PG := pApp (prsV_tk P1 (same_tk (((q1.trans q2).trans q3).trans q4))) (.cons (prV_tk pr3 (same_tk (q3.trans q4))) .nil)
      have LG := upd_same (H := upd (upd (upd HY p2 (.tup [.int 1, .int (n : Int)])) p3 (.tup [.int t, .ref p2])) p4 (.lst [.ref p3])) (a := gl) (o := .lst (xs1 ++ [.ref p3]))
      have qq := ((q1.trans q2).trans q3).trans q4
      have hsG := qq _ _ hsY
      have gb : gl ≠ b := (ne_of_none (((q1.trans q2).trans q3) _ _ hsY) hgl).symm
      replace sb := sb.trans (.of qq)
      clear q1 q2 q3 q4 qq fr2 pr3 hp2 hp3 hp4 hgl P1 hp1 hsY g1 kb1
      generalize upd (upd (upd (upd HY p2 (.tup [.int 1, .int (n : Int)])) p3 (.tup [.int t, .ref p2])) p4 (.lst [.ref p3])) gl (.lst (xs1 ++ [.ref p3])) = HG at *
      have gs0 : 0 < (xs1 ++ [V.ref p3]).length := by simp
      generalize xs1 ++ [V.ref p3] = gs at *
      generalize ps1 ++ [(t, oneOver n (by omega))] = ps at *
      have gw : Gw ps := Gw.of gg gD (up_pow gE (by decide)) (up_pow gM (by decide)) (by decide)
      have gsl : gs.length ≤ 19 := by rw [pLen PG]; exact gg.len
      -- at, row
      refine ⟨_, rfl, _, rfl, gl, _, rfl, .inl (sqL_of LG), b, y0, s1, y2, _, rfl, hsG, by omega, by omega, e1, by omega, Nat.lt_of_le_of_lt (m := 2000) (by omega) (by decide), fun at' z0 z2 a0 a1 r0 r1 => ?_⟩
      have sbA : Sb b HG _ := Sb.upd (o := .lst [.int z0, .int s1, .int z2])
      have hsA : SrcAt (upd HG b (.lst [.int z0, .int s1, .int z2])) b z0 s1 z2 := upd_same
      generalize upd HG b (.lst [.int z0, .int s1, .int z2]) = HA at *
      replace LG := sbA _ _ LG gb
      replace PG := prsV_tk PG (kv_sb hsG sbA)
      replace sb := sb.trans sbA
      clear hsG sbA
      refine ⟨_, rfl, fun x dx i1' i2' i3' => mk_row1 (sqL_of LG) PG gw i1' i2' i3' fun H3 s3 R1 => ⟨two_le, fun tp htp => ?_⟩⟩
      have q1 := same_new (o := .tup [.int at', .ref x]) htp
      have S1 : SqT K (upd H3 tp (.tup [.int at', .ref x])) tp [.int at', .ref x] := sqT_of upd_same
      have qq := s3.trans q1
      have L0 : Lp K b gl gs ps (.ref x) _ := ⟨qq _ _ LG, prsV_tk PG (same_tk qq), rowAt_same R1 q1, gb⟩
      have hsB := qq _ _ hsA
      replace sb := sb.trans (.of qq)
      clear LG PG R1 qq q1 s3 hsA htp
      generalize upd H3 tp (.tup [.int at', .ref x]) = HB at *
      refine ⟨tp, _, rfl, S1, rfl, _, _, rfl, _, _, rfl, rfl, ?_⟩
      clear S1
      -- bad
      have hat : at'.toNat < gs.length := by omega
      obtain ⟨tq, htq, pv⟩ := pGet L0.P (List.getElem?_eq_getElem hat)
      have tm := List.mem_of_getElem? htq
      have t0' := gg.lo tq tm
      have t1' : tq.1 ≤ ((10 ^ 58 : Nat) : Int) := gg.hi tq tm
      have tbq : B 500 tq.2 := (gg.nd tq tm).B gD (Nat.lt_of_lt_of_le gE (Nat.pow_le_pow_right (by decide) (by decide))) (Nat.lt_of_lt_of_le gM (Nat.pow_le_pow_right (by decide) (by decide)))
      have tb2 : tq.1.natAbs < 2 ^ 200 := by
        have a3 : (10 ^ 58 : Nat) < 2 ^ 200 := by decide
        omega
      have tb3 : tq.1.natAbs < 2 ^ 300 := Nat.lt_of_lt_of_le tb2 (Nat.pow_le_pow_right (by decide) (by decide))
      refine ⟨_, rfl, _, rfl, _, rfl, gl, _, _, _, rfl, rfl, sqL_of L0.L, (at_nat a0 a1).trans (List.getElem?_eq_getElem hat), b, z0, s1, z2, _, tq, rfl, hsB, by omega, by omega, e1, pv, t0', tb3, tbq, fun bad HC v0 v2 ob sbC hsC r2 r3 => ?_⟩
      replace L0 := L0.sb hsB sbC
      replace sb := sb.trans sbC
      clear sbC hsB
      have od : OddP K HC bad := GdB.at (Gd := OddP K) (v := bad) (fun _ _ _ s h => oddP_same s h) ob
      clear ob
      have Gls : ∀ {H}, Lp K b gl gs ps (.ref x) H → Gl K H gs := fun h => gd_gl gg gD gE gM h.P
      have cl1 := gl_len (gl_cut (Gls L0) none (some at'))
      have cl2 := gl_len (gl_cut (Gls L0) (some (at' + 1)) none)
      have cl3 := gl_len (gl_cut (Gls L0) (some at') none)
      -- things
      refine ⟨_, rfl, _, rfl, _, rfl, gl, _, rfl, sqL_of L0.L, fun a1 ha1 => ?_⟩
      have q := same_new (o := HO.lst (cutV gs none (some at'))) ha1
      replace L0 := L0.same q
      replace od := oddP_same q od
      replace sb := sb.trans (.of q)
      replace hsC := q _ _ hsC
      have Fa1 := upd_same (H := HC) (a := a1) (o := HO.lst (cutV gs none (some at')))
      clear q ha1
      generalize upd HC a1 (HO.lst (cutV gs none (some at'))) = G0 at *
      refine ⟨_, rfl, one_le, fun a2 ha2 => ?_⟩
      have q := same_new (o := HO.lst [bad]) ha2
      replace Fa1 := q _ _ Fa1
      replace L0 := L0.same q
      replace od := oddP_same q od
      replace sb := sb.trans (.of q)
      replace hsC := q _ _ hsC
      have Fa2 := upd_same (H := G0) (a := a2) (o := HO.lst [bad])
      clear q ha2
      generalize upd G0 a2 (HO.lst [bad]) = G1 at *
      refine ⟨a1, a2, _, _, rfl, rfl, Fa1, Fa2, by simp only [List.length_append, List.length_cons, List.length_nil]; omega, fun a3 ha3 => ?_⟩
      have q := same_new (o := HO.lst (cutV gs none (some at') ++ [bad])) ha3
      replace Fa1 := q _ _ Fa1
      replace Fa2 := q _ _ Fa2
      replace L0 := L0.same q
      replace od := oddP_same q od
      replace sb := sb.trans (.of q)
      replace hsC := q _ _ hsC
      have Fa3 := upd_same (H := G1) (a := a3) (o := HO.lst (cutV gs none (some at') ++ [bad]))
      clear q ha3
      generalize upd G1 a3 (HO.lst (cutV gs none (some at') ++ [bad])) = G2 at *
      refine ⟨_, rfl, _, rfl, _, _, rfl, rfl, _, rfl, gl, _, rfl, sqL_of L0.L, fun a4 ha4 => ?_⟩
      have q := same_new (o := HO.lst (cutV gs (some (at' + 1)) none)) ha4
      replace Fa1 := q _ _ Fa1
      replace Fa2 := q _ _ Fa2
      replace Fa3 := q _ _ Fa3
      replace L0 := L0.same q
      replace od := oddP_same q od
      replace sb := sb.trans (.of q)
      replace hsC := q _ _ hsC
      have Fa4 := upd_same (H := G2) (a := a4) (o := HO.lst (cutV gs (some (at' + 1)) none))
      clear q ha4
      generalize upd G2 a4 (HO.lst (cutV gs (some (at' + 1)) none)) = G3 at *
      refine ⟨a3, a4, _, _, rfl, rfl, Fa3, Fa4, by simp only [List.length_append, List.length_cons, List.length_nil]; omega, fun a5 ha5 => ?_⟩
      have q := same_new (o := HO.lst (cutV gs none (some at') ++ [bad] ++ cutV gs (some (at' + 1)) none)) ha5
      replace Fa1 := q _ _ Fa1
      replace Fa2 := q _ _ Fa2
      replace Fa3 := q _ _ Fa3
      replace Fa4 := q _ _ Fa4
      replace L0 := L0.same q
      replace od := oddP_same q od
      replace sb := sb.trans (.of q)
      replace hsC := q _ _ hsC
      have Fa5 := upd_same (H := G3) (a := a5) (o := HO.lst (cutV gs none (some at') ++ [bad] ++ cutV gs (some (at' + 1)) none))
      clear q ha5
      generalize upd G3 a5 (HO.lst (cutV gs none (some at') ++ [bad] ++ cutV gs (some (at' + 1)) none)) = G4 at *
      have T1 := th_list (sqL_of Fa5) (gl_cut (Gls L0) none (some at')) (gl_cut (Gls L0) (some (at' + 1)) none) od
      clear Fa1
      clear Fa2
      clear Fa3
      clear Fa4
      clear Fa5
      refine ⟨_, rfl, _, rfl, _, rfl, gl, _, rfl, sqL_of L0.L, fun a6 ha6 => ?_⟩
      have q := same_new (o := HO.lst (cutV gs none (some at'))) ha6
      replace T1 := th_same q T1
      replace L0 := L0.same q
      replace od := oddP_same q od
      replace sb := sb.trans (.of q)
      replace hsC := q _ _ hsC
      have Fa6 := upd_same (H := G4) (a := a6) (o := HO.lst (cutV gs none (some at')))
      clear q ha6
      generalize upd G4 a6 (HO.lst (cutV gs none (some at'))) = G5 at *
      refine ⟨_, rfl, one_le, fun a7 ha7 => ?_⟩
      have q := same_new (o := HO.lst [bad]) ha7
      replace Fa6 := q _ _ Fa6
      replace T1 := th_same q T1
      replace L0 := L0.same q
      replace od := oddP_same q od
      replace sb := sb.trans (.of q)
      replace hsC := q _ _ hsC
      have Fa7 := upd_same (H := G5) (a := a7) (o := HO.lst [bad])
      clear q ha7
      generalize upd G5 a7 (HO.lst [bad]) = G6 at *
      refine ⟨a6, a7, _, _, rfl, rfl, Fa6, Fa7, by simp only [List.length_append, List.length_cons, List.length_nil]; omega, fun a8 ha8 => ?_⟩
      have q := same_new (o := HO.lst (cutV gs none (some at') ++ [bad])) ha8
      replace Fa6 := q _ _ Fa6
      replace Fa7 := q _ _ Fa7
      replace T1 := th_same q T1
      replace L0 := L0.same q
      replace od := oddP_same q od
      replace sb := sb.trans (.of q)
      replace hsC := q _ _ hsC
      have Fa8 := upd_same (H := G6) (a := a8) (o := HO.lst (cutV gs none (some at') ++ [bad]))
      clear q ha8
      generalize upd G6 a8 (HO.lst (cutV gs none (some at') ++ [bad])) = G7 at *
      refine ⟨_, rfl, _, rfl, _, rfl, gl, _, rfl, sqL_of L0.L, fun a9 ha9 => ?_⟩
      have q := same_new (o := HO.lst (cutV gs (some at') none)) ha9
      replace Fa6 := q _ _ Fa6
      replace Fa7 := q _ _ Fa7
      replace Fa8 := q _ _ Fa8
      replace T1 := th_same q T1
      replace L0 := L0.same q
      replace od := oddP_same q od
      replace sb := sb.trans (.of q)
      replace hsC := q _ _ hsC
      have Fa9 := upd_same (H := G7) (a := a9) (o := HO.lst (cutV gs (some at') none))
      clear q ha9
      generalize upd G7 a9 (HO.lst (cutV gs (some at') none)) = G8 at *
      refine ⟨a8, a9, _, _, rfl, rfl, Fa8, Fa9, by simp only [List.length_append, List.length_cons, List.length_nil]; omega, fun a10 ha10 => ?_⟩
      have q := same_new (o := HO.lst (cutV gs none (some at') ++ [bad] ++ cutV gs (some at') none)) ha10
      replace Fa6 := q _ _ Fa6
      replace Fa7 := q _ _ Fa7
      replace Fa8 := q _ _ Fa8
      replace Fa9 := q _ _ Fa9
      replace T1 := th_same q T1
      replace L0 := L0.same q
      replace od := oddP_same q od
      replace sb := sb.trans (.of q)
      replace hsC := q _ _ hsC
      have Fa10 := upd_same (H := G8) (a := a10) (o := HO.lst (cutV gs none (some at') ++ [bad] ++ cutV gs (some at') none))
      clear q ha10
      generalize upd G8 a10 (HO.lst (cutV gs none (some at') ++ [bad] ++ cutV gs (some at') none)) = G9 at *
      refine ⟨a10, _, rfl, .inl ⟨sqL_of Fa10, fun a11 ha11 => ?_⟩⟩
      have q := same_new (o := HO.tup (cutV gs none (some at') ++ [bad] ++ cutV gs (some at') none)) ha11
      replace Fa6 := q _ _ Fa6
      replace Fa7 := q _ _ Fa7
      replace Fa8 := q _ _ Fa8
      replace Fa9 := q _ _ Fa9
      replace Fa10 := q _ _ Fa10
      replace T1 := th_same q T1
      replace L0 := L0.same q
      replace od := oddP_same q od
      replace sb := sb.trans (.of q)
      replace hsC := q _ _ hsC
      have Fa11 := upd_same (H := G9) (a := a11) (o := HO.tup (cutV gs none (some at') ++ [bad] ++ cutV gs (some at') none))
      clear q ha11
      generalize upd G9 a11 (HO.tup (cutV gs none (some at') ++ [bad] ++ cutV gs (some at') none)) = G10 at *
      have T2 := th_tup (sqT_of Fa11) (gl_cut (Gls L0) none (some at')) (gl_cut (Gls L0) (some at') none) od
      clear Fa6
      clear Fa7
      clear Fa8
      clear Fa9
      clear Fa10
      clear Fa11
      refine ⟨_, rfl, _, rfl, one_le, fun a12 ha12 => ?_⟩
      have q := same_new (o := HO.lst [bad]) ha12
      replace T1 := th_same q T1
      replace T2 := th_same q T2
      replace L0 := L0.same q
      replace od := oddP_same q od
      replace sb := sb.trans (.of q)
      replace hsC := q _ _ hsC
      have Fa12 := upd_same (H := G10) (a := a12) (o := HO.lst [bad])
      clear q ha12
      generalize upd G10 a12 (HO.lst [bad]) = G11 at *
      refine ⟨gl, a12, _, _, rfl, rfl, L0.L, Fa12, by simp only [List.length_append, List.length_cons, List.length_nil]; omega, fun a13 ha13 => ?_⟩
      have q := same_new (o := HO.lst (gs ++ [bad])) ha13
      replace Fa12 := q _ _ Fa12
      replace T1 := th_same q T1
      replace T2 := th_same q T2
      replace L0 := L0.same q
      replace od := oddP_same q od
      replace sb := sb.trans (.of q)
      replace hsC := q _ _ hsC
      have Fa13 := upd_same (H := G11) (a := a13) (o := HO.lst (gs ++ [bad]))
      clear q ha13
      generalize upd G11 a13 (HO.lst (gs ++ [bad])) = G12 at *
      have T3 := th_list (sqL_of (show _ = some (HO.lst (gs ++ [bad] ++ [])) by rw [List.append_nil]; exact Fa13)) (Gls L0) gl_nil od
      clear Fa12
      clear Fa13
      refine ⟨_, rfl, one_le, fun a14 ha14 => ?_⟩
      have q := same_new (o := HO.lst [bad]) ha14
      replace T1 := th_same q T1
      replace T2 := th_same q T2
      replace T3 := th_same q T3
      replace L0 := L0.same q
      replace od := oddP_same q od
      replace sb := sb.trans (.of q)
      replace hsC := q _ _ hsC
      have Fa14 := upd_same (H := G12) (a := a14) (o := HO.lst [bad])
      clear q ha14
      generalize upd G12 a14 (HO.lst [bad]) = G13 at *
      have T4 := th_list (xs := []) (ys := []) (sqL_of Fa14) gl_nil gl_nil od
      clear Fa14
      refine ⟨four_le, fun l1 hl1 => ?_⟩
      have q := same_new (o := HO.lst [.ref a5, .ref a11, .ref a13, .ref a14]) hl1
      replace T1 := th_same q T1
      replace T2 := th_same q T2
      replace T3 := th_same q T3
      replace T4 := th_same q T4
      replace L0 := L0.same q
      replace od := oddP_same q od
      replace sb := sb.trans (.of q)
      replace hsC := q _ _ hsC
      have Fl1 := upd_same (H := G13) (a := l1) (o := HO.lst [.ref a5, .ref a11, .ref a13, .ref a14])
      clear q hl1
      generalize upd G13 l1 (HO.lst [.ref a5, .ref a11, .ref a13, .ref a14]) = G14 at *
      refine ⟨_, rfl, fun d1 hd1 => ?_⟩
      have q := same_new (o := HO.dK []) hd1
      replace Fl1 := q _ _ Fl1
      replace T1 := th_same q T1
      replace T2 := th_same q T2
      replace T3 := th_same q T3
      replace T4 := th_same q T4
      replace L0 := L0.same q
      replace od := oddP_same q od
      replace sb := sb.trans (.of q)
      replace hsC := q _ _ hsC
      have Fd1 := upd_same (H := G14) (a := d1) (o := HO.dK [])
      clear q hd1
      generalize upd G14 d1 (HO.dK []) = G15 at *
      have D1 := th_dct (K := K) Fd1 (fun q hq => by simp at hq) (by decide)
      clear Fd1
      obtain ⟨as, kvs, ea, pa, kf⟩ := prs_kvs L0.P
      have kl : kvs.length ≤ 19 := by rw [pLen kf]; exact gg.len
      have ken := merge_en (kvf_en kf (gl_rng gg gD gE (Nat.lt_of_lt_of_le gM (Nat.pow_le_pow_right (by decide) (by decide))))) (kvs := []) (fun q hq => by simp at hq)
      have kml := merge_len (kvs := kvs)
      refine ⟨_, rfl, gl, as, kvs, rfl, sqL_of (ea ▸ L0.L), pa, fun d2 hd2 => ?_⟩
      have q := same_new (o := HO.dK (mergeK [] kvs)) hd2
      replace Fl1 := q _ _ Fl1
      replace T1 := th_same q T1
      replace T2 := th_same q T2
      replace T3 := th_same q T3
      replace T4 := th_same q T4
      replace D1 := th_same q D1
      replace ken := fun z hz => en_same q (ken z hz)
      replace L0 := L0.same q
      replace od := oddP_same q od
      replace sb := sb.trans (.of q)
      replace hsC := q _ _ hsC
      have Fd2 := upd_same (H := G15) (a := d2) (o := HO.dK (mergeK [] kvs))
      clear q hd2
      generalize upd G15 d2 (HO.dK (mergeK [] kvs)) = G16 at *
      clear pa kf
      have D2 := th_dct (K := K) Fd2 ken (Nat.le_trans kml kl)
      clear Fd2
      refine ⟨one_le, fun t15 ht15 => ?_⟩
      have q := same_new (o := HO.tup [.int 1]) ht15
      replace Fl1 := q _ _ Fl1
      replace T1 := th_same q T1
      replace T2 := th_same q T2
      replace T3 := th_same q T3
      replace T4 := th_same q T4
      replace D1 := th_same q D1
      replace D2 := th_same q D2
      replace ken := fun z hz => en_same q (ken z hz)
      replace L0 := L0.same q
      replace od := oddP_same q od
      replace sb := sb.trans (.of q)
      replace hsC := q _ _ hsC
      have Ft15 := upd_same (H := G16) (a := t15) (o := HO.tup [.int 1])
      clear q ht15
      generalize upd G16 t15 (HO.tup [.int 1]) = G17 at *
      have T15 := th_tup (K := K) (xs := []) (ys := []) (sqT_of Ft15) gl_nil gl_nil (odd_int (shI_small (by decide)))
      clear Ft15
      refine ⟨one_le, fun l16 hl16 => ?_⟩
      have q := same_new (o := HO.lst [.int 1]) hl16
      replace Fl1 := q _ _ Fl1
      replace T1 := th_same q T1
      replace T2 := th_same q T2
      replace T3 := th_same q T3
      replace T4 := th_same q T4
      replace D1 := th_same q D1
      replace D2 := th_same q D2
      replace T15 := th_same q T15
      replace ken := fun z hz => en_same q (ken z hz)
      replace L0 := L0.same q
      replace od := oddP_same q od
      replace sb := sb.trans (.of q)
      replace hsC := q _ _ hsC
      have Fl16 := upd_same (H := G17) (a := l16) (o := HO.lst [.int 1])
      clear q hl16
      generalize upd G17 l16 (HO.lst [.int 1]) = G18 at *
      have T16 := th_list (K := K) (xs := []) (ys := []) (sqL_of Fl16) gl_nil gl_nil (odd_int (shI_small (by decide)))
      clear Fl16
      refine ⟨nine_le, fun l2 hl2 => ?_⟩
      have q := same_new (o := HO.lst [.non, .int 0, .bl true, .str "", .str "x", .ref d1, .ref d2, .ref t15, .ref l16]) hl2
      replace Fl1 := q _ _ Fl1
      replace T1 := th_same q T1
      replace T2 := th_same q T2
      replace T3 := th_same q T3
      replace T4 := th_same q T4
      replace D1 := th_same q D1
      replace D2 := th_same q D2
      replace T15 := th_same q T15
      replace T16 := th_same q T16
      replace ken := fun z hz => en_same q (ken z hz)
      replace L0 := L0.same q
      replace od := oddP_same q od
      replace sb := sb.trans (.of q)
      replace hsC := q _ _ hsC
      have Fl2 := upd_same (H := G18) (a := l2) (o := HO.lst [.non, .int 0, .bl true, .str "", .str "x", .ref d1, .ref d2, .ref t15, .ref l16])
      clear q hl2
      generalize upd G18 l2 (HO.lst [.non, .int 0, .bl true, .str "", .str "x", .ref d1, .ref d2, .ref t15, .ref l16]) = G19 at *
      refine ⟨l1, l2, _, _, rfl, rfl, Fl1, Fl2, (by simp only [List.length_append, List.length_cons, List.length_nil]; decide), fun l3 hl3 => ?_⟩
      have q := same_new (o := HO.lst ([.ref a5, .ref a11, .ref a13, .ref a14] ++ [.non, .int 0, .bl true, .str "", .str "x", .ref d1, .ref d2, .ref t15, .ref l16])) hl3
      replace Fl1 := q _ _ Fl1
      replace Fl2 := q _ _ Fl2
      replace T1 := th_same q T1
      replace T2 := th_same q T2
      replace T3 := th_same q T3
      replace T4 := th_same q T4
      replace D1 := th_same q D1
      replace D2 := th_same q D2
      replace T15 := th_same q T15
      replace T16 := th_same q T16
      replace ken := fun z hz => en_same q (ken z hz)
      replace L0 := L0.same q
      replace od := oddP_same q od
      replace sb := sb.trans (.of q)
      replace hsC := q _ _ hsC
      have Fl3 := upd_same (H := G19) (a := l3) (o := HO.lst ([.ref a5, .ref a11, .ref a13, .ref a14] ++ [.non, .int 0, .bl true, .str "", .str "x", .ref d1, .ref d2, .ref t15, .ref l16]))
      clear q hl3
      generalize upd G19 l3 (HO.lst ([.ref a5, .ref a11, .ref a13, .ref a14] ++ [.non, .int 0, .bl true, .str "", .str "x", .ref d1, .ref d2, .ref t15, .ref l16])) = G20 at *
      have TT : ∀ v ∈ ([.ref a5, .ref a11, .ref a13, .ref a14, .non, .int 0, .bl true, .str "", .str "x", .ref d1, .ref d2, .ref t15, .ref l16] : List V), Th K G20 v := by
        intro v hv
        simp only [List.mem_cons, List.not_mem_nil, or_false] at hv
        rcases hv with rfl | rfl | rfl | rfl | rfl | rfl | rfl | rfl | rfl | rfl | rfl | rfl | rfl
        · exact T1
        · exact T2
        · exact T3
        · exact T4
        · exact th_non
        · exact th_kind (ki_int 0) (by decide) (by decide) (.int 0) (sm_int (shI_small (by decide))).z
        · exact th_bl
        · exact th_str (by decide +kernel) (by decide +kernel) (by decide +kernel)
        · exact th_str (by decide +kernel) (by decide +kernel) (by decide +kernel)
        · exact D1
        · exact D2
        · exact T15
        · exact T16
      clear T1 T2 T3 T4 D1 D2 T15 T16 Fl1 Fl2 ken kml kl
      refine ⟨_, rfl, l3, rfl, ⟨_, sqL_of Fl3⟩, ?_⟩
      refine for_list (xs := [.ref a5, .ref a11, .ref a13, .ref a14, .non, .int 0, .bl true, .str "", .str "x", .ref d1, .ref d2, .ref t15, .ref l16]) (fun j σ H' => Same G20 H' ∧ ∃ o7 o8 o10, σ = [some (.ref b), some (.int (0 + (i : Int))), some (.ref gl), some (.int at'), some (.ref x), some bad, some (.ref l3), o7, o8, o9, o10]) ⟨Same.refl _, _, _, _, rfl⟩ (fun j σ H' _ r => sqL_of (r.1 _ _ Fl3)) ?_ ?_
      · rintro j v σ Hj hv ⟨sj, o7, o8, o10, rfl⟩
        have Tj := th_same sj (TT v (List.mem_of_getElem? hv))
        obtain ⟨dj, Dj, Sj⟩ := Tj.2
        refine ⟨_, rfl, v, dj, rfl, Dj, Sj, ?_⟩
        refine ⟨_, rfl, by decide, by decide, fun D hD => ?_⟩
        refine lc_range (lo := 0) (n := 2) (fun k H9 => Same Hj H9 ∧ H9 D = some (.lst (List.replicate k (V.str "row")))) ⟨same_new hD, upd_same⟩ ?_ ?_
        · rintro k H9 hk ⟨s9, hw⟩
          have td : Told K H9 (0 + (k : Int)) (.ref x) v "row" := .no0 (by omega) (th_same s9 Tj).1
          refine ⟨rfl, _, rfl, _, rfl, _, rfl, _, _, _, _, rfl, td, fun Ha sa => ?_⟩
          refine ⟨_, sa _ _ hw, by rw [List.length_replicate]; omega, same_mut (s9.trans sa) hD, ?_⟩
          rw [upd_same, ← List.replicate_succ']
        rintro H9 ⟨s9, hw⟩
        refine ⟨one_le, fun lw hlw => ?_⟩
        have s10 := same_new (o := HO.lst [V.str "row"]) hlw
        refine ⟨lw, 2, _, rfl, rfl, upd_same, by decide, by decide, two_le, fun lx hlx => ?_⟩
        have s11 := same_new (o := HO.lst (List.replicate (2 : Int).toNat [V.str "row"]).flatten) hlx
        have sm := (s9.trans s10).trans s11
        refine no_strs (List.replicate 2 "row") ((s10.trans s11) _ _ hw) upd_same ⟨_, rfl, iteF ?_⟩
        refine ⟨_, rfl, v, dj, rfl, dpW_same sm Dj, Sj, _, rfl, rfl, _, rfl, iteE (by simp) ⟨sj.trans sm, _, _, _, rfl⟩⟩
      rintro σ Hk ⟨sk, o7, o8, o10, rfl⟩
      replace L0 := L0.same sk
      replace sb := sb.trans (.of sk)
      replace hsC := sk _ _ hsC
      clear sk TT Fl3 od
      -- row, row
      refine ⟨_, rfl, by decide, by decide, fun D hD => ?_⟩
      refine lc_range (lo := 0) (n := 2) (fun k H9 => Same Hk H9 ∧ H9 D = some (.lst (List.replicate k (V.str "row")))) ⟨same_new hD, upd_same⟩ ?_ ?_
      · rintro k H9 hk ⟨s9, hw⟩
        have td : Told K H9 (0 + (k : Int)) (.ref x) (.ref x) "row" := .no0 (by omega) (by obtain ⟨x', dx', dd, ks, e, h1, -⟩ := rowAt_same L0.R s9; cases e; exact .inl (.inr (.inl ⟨_, _, _, rfl, h1⟩)))
        refine ⟨rfl, _, rfl, _, rfl, _, rfl, _, _, _, _, rfl, td, fun Ha sa => ?_⟩
        refine ⟨_, sa _ _ hw, by rw [List.length_replicate]; omega, same_mut (s9.trans sa) hD, ?_⟩
        rw [upd_same, ← List.replicate_succ']
      rintro H9 ⟨s9, hw⟩
      refine ⟨one_le, fun lw hlw => ?_⟩
      have s10 := same_new (o := HO.lst [V.str "row"]) hlw
      refine ⟨lw, 2, _, rfl, rfl, upd_same, by decide, by decide, two_le, fun lx hlx => ?_⟩
      have s11 := same_new (o := HO.lst (List.replicate (2 : Int).toNat [V.str "row"]).flatten) hlx
      have sm := (s9.trans s10).trans s11
      refine no_strs (List.replicate 2 "row") ((s10.trans s11) _ _ hw) upd_same ⟨_, rfl, iteF ?_⟩
      replace L0 := L0.same sm
      replace sb := sb.trans (.of sm)
      replace hsC := sm _ _ hsC
      clear s9 hw s10 s11 sm hlw hlx hD
      generalize upd (upd H9 lw _) lx _ = HR at *
      -- strange
      refine ⟨two_le, fun t12 ht12 => ?_⟩
      have q := same_new (o := HO.tup [.int 1, .int 2]) ht12
      replace L0 := L0.same q
      replace sb := sb.trans (.of q)
      replace hsC := q _ _ hsC
      have Ft12 := upd_same (H := HR) (a := t12) (o := HO.tup [.int 1, .int 2])
      clear q ht12
      generalize upd HR t12 (HO.tup [.int 1, .int 2]) = J21 at *
      refine ⟨Nat.zero_le _, fun le hle => ?_⟩
      have q := same_new (o := HO.lst []) hle
      replace Ft12 := q _ _ Ft12
      replace L0 := L0.same q
      replace sb := sb.trans (.of q)
      replace hsC := q _ _ hsC
      have Fle := upd_same (H := J21) (a := le) (o := HO.lst [])
      clear q hle
      generalize upd J21 le (HO.lst []) = J22 at *
      refine ⟨_, rfl, fun d3 hd3 => ?_⟩
      have q := same_new (o := HO.dK []) hd3
      replace Ft12 := q _ _ Ft12
      replace Fle := q _ _ Fle
      replace L0 := L0.same q
      replace sb := sb.trans (.of q)
      replace hsC := q _ _ hsC
      have Fd3 := upd_same (H := J22) (a := d3) (o := HO.dK [])
      clear q hd3
      generalize upd J22 d3 (HO.dK []) = J23 at *
      refine ⟨nine_le, fun ls hls => ?_⟩
      have q := same_new (o := HO.lst [.non, .int 0, .int 1, .bl true, .ref t12, .ref le, .ref gl, .str "", .ref d3]) hls
      replace Ft12 := q _ _ Ft12
      replace Fle := q _ _ Fle
      replace Fd3 := q _ _ Fd3
      replace L0 := L0.same q
      replace sb := sb.trans (.of q)
      replace hsC := q _ _ hsC
      have Fls := upd_same (H := J23) (a := ls) (o := HO.lst [.non, .int 0, .int 1, .bl true, .ref t12, .ref le, .ref gl, .str "", .ref d3])
      clear q hls
      generalize upd J23 ls (HO.lst [.non, .int 0, .int 1, .bl true, .ref t12, .ref le, .ref gl, .str "", .ref d3]) = J24 at *
      refine ⟨_, rfl, b, v0, s1, v2, 9, rfl, hsC, by omega, by omega, e1, by decide, by decide, fun wi c0 c2 g0 g1 g2 g3 => ?_⟩
      have sbD : Sb b J24 _ := Sb.upd (o := .lst [.int c0, .int s1, .int c2])
      have hsD : SrcAt (upd J24 b (.lst [.int c0, .int s1, .int c2])) b c0 s1 c2 := upd_same
      have lb : ls ≠ b := ne_of Fls hsC (by intro z; cases z)
      have nFt12 := ne_of Ft12 hsC (by intro z; cases z)
      have nFle := ne_of Fle hsC (by intro z; cases z)
      have nFd3 := ne_of Fd3 hsC (by intro z; cases z)
      replace Ft12 := sbD _ _ Ft12 nFt12
      replace Fle := sbD _ _ Fle nFle
      replace Fd3 := sbD _ _ Fd3 nFd3
      replace Fls := sbD _ _ Fls lb
      replace L0 := L0.sb hsC sbD
      replace sb := sb.trans sbD
      clear sbD hsC lb nFt12 nFle nFd3
      generalize upd J24 b (HO.lst [.int c0, .int s1, .int c2]) = HS at *
      have SV : ∀ v ∈ ([.non, .int 0, .int 1, .bl true, .ref t12, .ref le, .ref gl, .str "", .ref d3] : List V), NoRow K HS v := by
        intro v hv
        simp only [List.mem_cons, List.not_mem_nil, or_false] at hv
        rcases hv with rfl | rfl | rfl | rfl | rfl | rfl | rfl | rfl | rfl
        · exact ⟨_, ki_non⟩
        · exact ⟨_, ki_int 0⟩
        · exact ⟨_, ki_int 1⟩
        · exact ⟨_, ki_bl true⟩
        · exact ⟨_, ki_tup (sqT_of Ft12)⟩
        · exact ⟨_, ki_lst (sqL_of Fle)⟩
        · exact ⟨_, ki_lst (sqL_of L0.L)⟩
        · exact ⟨_, ki_str _⟩
        · exact ⟨_, ki_dct Fd3⟩
      clear Ft12 Fle Fd3
      have hwi : wi.toNat < ([.non, .int 0, .int 1, .bl true, .ref t12, .ref le, .ref gl, .str "", .ref d3] : List V).length := by simp only [List.length_cons, List.length_nil]; omega
      refine ⟨ls, _, _, _, rfl, rfl, sqL_of Fls, (at_nat g0 (by simp only [List.length_cons, List.length_nil]; omega)).trans (List.getElem?_eq_getElem hwi), ?_⟩
      replace SV := SV _ (List.getElem_mem hwi)
      generalize ([.non, .int 0, .int 1, .bl true, .ref t12, .ref le, .ref gl, .str "", .ref d3] : List V)[wi.toNat] = sv at *
      refine ⟨two_le, fun tD htD => ?_⟩
      have sD := same_new (o := HO.tup [.int 2, .int 3]) htD
      have FD := sqT_of (K := K) (upd_same (H := HS) (a := tD) (o := HO.tup [.int 2, .int 3]))
      generalize upd HS tD (HO.tup [.int 2, .int 3]) = HD at *
      refine ⟨tD, rfl, ⟨_, FD⟩, fun D hD => ?_⟩
      refine lc_tup (xs := [.int 2, .int 3]) (fun k H9 => Same HD H9 ∧ H9 D = some (.lst (List.replicate k (V.str "row")))) ⟨same_new hD, upd_same⟩ (fun k H9 _ r => sqT_same FD r.1) ?_ ?_
      · rintro k dv H9 hdv ⟨s9, hw⟩
        have hkl := (List.getElem?_eq_some_iff.mp hdv).1
        simp only [List.length_cons, List.length_nil] at hkl
        have hdm := List.mem_of_getElem? hdv
        simp only [List.mem_cons, List.not_mem_nil, or_false] at hdm
        obtain ⟨d, rfl, hd⟩ : ∃ d : Int, dv = .int d ∧ (d = 2 ∨ d = 3) := by
          rcases hdm with rfl | rfl <;> exact ⟨_, rfl, by decide⟩
        have td : Told K H9 (d : Int) (.ref x) sv "row" := .no2 hd (rowAt_same L0.R (sD.trans s9)) (noRow_same (sD.trans s9) SV)
        refine ⟨rfl, _, rfl, _, rfl, _, rfl, _, _, _, _, rfl, td, fun Ha sa => ?_⟩
        refine ⟨_, sa _ _ hw, by rw [List.length_replicate]; omega, same_mut (s9.trans sa) hD, ?_⟩
        rw [upd_same, ← List.replicate_succ']
      rintro H9 ⟨s9, hw⟩
      replace s9 := sD.trans s9
      refine ⟨one_le, fun lw hlw => ?_⟩
      have s10 := same_new (o := HO.lst [V.str "row"]) hlw
      refine ⟨lw, 2, _, rfl, rfl, upd_same, by decide, by decide, two_le, fun lx hlx => ?_⟩
      have s11 := same_new (o := HO.lst (List.replicate (2 : Int).toNat [V.str "row"]).flatten) hlx
      have sm := (s9.trans s10).trans s11
      refine no_strs (List.replicate 2 "row") ((s10.trans s11) _ _ hw) upd_same ⟨_, rfl, iteF ?_⟩
      clear SV Fls
      replace L0 := L0.same sm
      replace sb := sb.trans (.of sm)
      replace hsD := sm _ _ hsD
      clear s9 hw s10 s11 sm hlw hlx hD htD FD sD
      generalize upd (upd H9 lw _) lx _ = HT at *
      -- one tick
      have gN := gg.norm gD
      have b19 : 19 * M < 2 ^ 450 := by
        have h5 : (2 ^ 450 : Nat) = 32 * 2 ^ 445 := by rw [show (450 : Nat) = 445 + 5 from rfl, Nat.pow_add]; omega
        omega
      have gwN : Gw (norm ps) := Gw.of gN gD (up_pow gE (by decide)) (up_pow b19 (by decide)) (by decide)
      have gwM : Gw (mv 1 (norm ps)) := Gw.of (gN.mv (N := 1) (by decide) (by decide)) gD (up_pow gE (by decide)) (up_pow b19 (by decide)) (by decide)
      have gwA : Gw (norm ps ++ norm ps) := Gw.of (gN.app gN) gD (up_pow gE (by decide)) (up_pow b19 (by decide)) (by decide)
      refine ⟨four_le, fun tD htD => ?_⟩
      have sD := same_new (o := HO.tup [.int 4, .int 5, .int 6, .int 7]) htD
      have FD := sqT_of (K := K) (upd_same (H := HT) (a := tD) (o := HO.tup [.int 4, .int 5, .int 6, .int 7]))
      generalize upd HT tD (HO.tup [.int 4, .int 5, .int 6, .int 7]) = HD at *
      refine ⟨tD, rfl, ⟨_, FD⟩, fun D hD => ?_⟩
      refine lc_tup (xs := [.int 4, .int 5, .int 6, .int 7]) (fun k H9 => Same HD H9 ∧ H9 D = some (.lst (List.replicate k (V.str "fine")))) ⟨same_new hD, upd_same⟩ (fun k H9 _ r => sqT_same FD r.1) ?_ ?_
      · rintro k dv H9 hdv ⟨s9, hw⟩
        have hkl := (List.getElem?_eq_some_iff.mp hdv).1
        simp only [List.length_cons, List.length_nil] at hkl
        have hdm := List.mem_of_getElem? hdv
        simp only [List.mem_cons, List.not_mem_nil, or_false] at hdm
        obtain ⟨d, rfl, hd⟩ : ∃ d : Int, dv = .int d ∧ (d = 4 ∨ d = 5 ∨ d = 6 ∨ d = 7) := by
          rcases hdm with rfl | rfl | rfl | rfl <;> exact ⟨_, rfl, by decide⟩
        have td : Told K H9 (d : Int) (.ref x) (.int 1) "fine" := .fine4 hd (rowAt_same L0.R (sD.trans s9)) (by decide) gwN gwM
        refine ⟨rfl, _, rfl, _, rfl, _, _, _, _, rfl, td, fun Ha sa => ?_⟩
        refine ⟨_, sa _ _ hw, by rw [List.length_replicate]; omega, same_mut (s9.trans sa) hD, ?_⟩
        rw [upd_same, ← List.replicate_succ']
      rintro H9 ⟨s9, hw⟩
      replace s9 := sD.trans s9
      refine ⟨one_le, fun lw hlw => ?_⟩
      have s10 := same_new (o := HO.lst [V.str "fine"]) hlw
      refine ⟨lw, 4, _, rfl, rfl, upd_same, by decide, by decide, four_le, fun lx hlx => ?_⟩
      have s11 := same_new (o := HO.lst (List.replicate (4 : Int).toNat [V.str "fine"]).flatten) hlx
      have sm := (s9.trans s10).trans s11
      refine no_strs (List.replicate 4 "fine") ((s10.trans s11) _ _ hw) upd_same ⟨_, rfl, iteF ?_⟩
      replace L0 := L0.same sm
      replace sb := sb.trans (.of sm)
      replace hsD := sm _ _ hsD
      clear s9 hw s10 s11 sm hlw hlx hD htD FD sD
      generalize upd (upd H9 lw _) lx _ = HU at *
      -- no tick
      refine ⟨_, rfl, _, _, rfl, rfl, (by unfold CPow; decide), _, _, rfl, rfl, one_le, fun u1 hu1 => ?_⟩
      have q := same_new (o := HO.tup [.int 0]) hu1
      replace L0 := L0.same q
      replace sb := sb.trans (.of q)
      replace hsD := q _ _ hsD
      have Fu1 := upd_same (H := HU) (a := u1) (o := HO.tup [.int 0])
      clear q hu1
      generalize upd HU u1 (HO.tup [.int 0]) = J25 at *
      refine ⟨Nat.zero_le _, fun u2' hu2' => ?_⟩
      have q := same_new (o := HO.lst []) hu2'
      replace Fu1 := q _ _ Fu1
      replace L0 := L0.same q
      replace sb := sb.trans (.of q)
      replace hsD := q _ _ hsD
      have Fu2' := upd_same (H := J25) (a := u2') (o := HO.lst [])
      clear q hu2'
      generalize upd J25 u2' (HO.lst []) = J26 at *
      refine fun u3 hu3 => ?_
      have q := same_new (o := HO.dK []) hu3
      replace Fu1 := q _ _ Fu1
      replace Fu2' := q _ _ Fu2'
      replace L0 := L0.same q
      replace sb := sb.trans (.of q)
      replace hsD := q _ _ hsD
      have Fu3 := upd_same (H := J26) (a := u3) (o := HO.dK [])
      clear q hu3
      generalize upd J26 u3 (HO.dK []) = J27 at *
      refine ⟨two_le, fun u4 hu4 => ?_⟩
      have q := same_new (o := HO.tup [.int 1, .int 2]) hu4
      replace Fu1 := q _ _ Fu1
      replace Fu2' := q _ _ Fu2'
      replace Fu3 := q _ _ Fu3
      replace L0 := L0.same q
      replace sb := sb.trans (.of q)
      replace hsD := q _ _ hsD
      have Fu4 := upd_same (H := J27) (a := u4) (o := HO.tup [.int 1, .int 2])
      clear q hu4
      generalize upd J27 u4 (HO.tup [.int 1, .int 2]) = J28 at *
      refine ⟨_, rfl, (by decide : 11 ≤ sizeLine), fun lt hlt => ?_⟩
      have q := same_new (o := HO.lst [.non, .int (-1), .int (0 - 10 ^ (58 : Int).toNat), .bl true, .bl false, .str "0", .ref u1, .ref u2', .ref u3, .ref u4, .ref x]) hlt
      replace Fu1 := q _ _ Fu1
      replace Fu2' := q _ _ Fu2'
      replace Fu3 := q _ _ Fu3
      replace Fu4 := q _ _ Fu4
      replace L0 := L0.same q
      replace sb := sb.trans (.of q)
      replace hsD := q _ _ hsD
      have Flt := upd_same (H := J28) (a := lt) (o := HO.lst [.non, .int (-1), .int (0 - 10 ^ (58 : Int).toNat), .bl true, .bl false, .str "0", .ref u1, .ref u2', .ref u3, .ref u4, .ref x])
      clear q hlt
      generalize upd J28 lt (HO.lst [.non, .int (-1), .int (0 - 10 ^ (58 : Int).toNat), .bl true, .bl false, .str "0", .ref u1, .ref u2', .ref u3, .ref u4, .ref x]) = J29 at *
      have TV : ∀ v ∈ ([.non, .int (-1), .int (0 - 10 ^ (58 : Int).toNat), .bl true, .bl false, .str "0", .ref u1, .ref u2', .ref u3, .ref u4, .ref x] : List V), NoTick K J29 v := by
        intro v hv
        simp only [List.mem_cons, List.not_mem_nil, or_false] at hv
        rcases hv with rfl | rfl | rfl | rfl | rfl | rfl | rfl | rfl | rfl | rfl | rfl
        · exact .inl ⟨_, .inl (ki_non), by decide⟩
        · exact .inr ⟨_, rfl, by decide +kernel⟩
        · exact .inr ⟨_, rfl, by decide +kernel⟩
        · exact .inl ⟨_, .inl (ki_bl true), by decide⟩
        · exact .inl ⟨_, .inl (ki_bl false), by decide⟩
        · exact .inl ⟨_, .inl (ki_str _), by decide⟩
        · exact .inl ⟨_, .inl (ki_tup (sqT_of Fu1)), by decide⟩
        · exact .inl ⟨_, .inl (ki_lst (sqL_of Fu2')), by decide⟩
        · exact .inl ⟨_, .inl (ki_dct Fu3), by decide⟩
        · exact .inl ⟨_, .inl (ki_tup (sqT_of Fu4)), by decide⟩
        · obtain ⟨x', dx', dd, ks, e, h1, -⟩ := id L0.R
          cases e
          exact .inl ⟨"Row", .inr ⟨rfl, _, _, _, rfl, h1⟩, by decide⟩
      clear Fu1 Fu2' Fu3 Fu4
      refine ⟨lt, rfl, ⟨_, sqL_of Flt⟩, ?_⟩
      refine for_list (xs := [.non, .int (-1), .int (0 - 10 ^ (58 : Int).toNat), .bl true, .bl false, .str "0", .ref u1, .ref u2', .ref u3, .ref u4, .ref x]) (fun j σ H' => Same J29 H' ∧ ∃ o7 o10, σ = [some (.ref b), some (.int (0 + (i : Int))), some (.ref gl), some (.int at'), some (.ref x), some bad, some (.ref l3), o7, o8, some sv, o10]) ⟨Same.refl _, o7, o10, rfl⟩ (fun j σ H' _ r => sqL_of (r.1 _ _ Flt)) ?_ ?_
      · rintro j v σ Hj hv ⟨sj, o7, o10, rfl⟩
        have Tj := noTick_same sj (TV v (List.mem_of_getElem? hv))
        have Rj := rowAt_same L0.R sj
        refine ⟨four_le, fun tD htD => ?_⟩
        have sD := same_new (o := HO.tup [.int 4, .int 5, .int 6, .int 7]) htD
        have FD := sqT_of (K := K) (upd_same (H := Hj) (a := tD) (o := HO.tup [.int 4, .int 5, .int 6, .int 7]))
        generalize upd Hj tD (HO.tup [.int 4, .int 5, .int 6, .int 7]) = HD at *
        refine ⟨tD, rfl, ⟨_, FD⟩, fun D hD => ?_⟩
        refine lc_tup (xs := [.int 4, .int 5, .int 6, .int 7]) (fun k H9 => Same HD H9 ∧ H9 D = some (.lst (List.replicate k (V.str "tick")))) ⟨same_new hD, upd_same⟩ (fun k H9 _ r => sqT_same FD r.1) ?_ ?_
        · rintro k dv H9 hdv ⟨s9, hw⟩
          have hkl := (List.getElem?_eq_some_iff.mp hdv).1
          simp only [List.length_cons, List.length_nil] at hkl
          have hdm := List.mem_of_getElem? hdv
          simp only [List.mem_cons, List.not_mem_nil, or_false] at hdm
          obtain ⟨d, rfl, hd⟩ : ∃ d : Int, dv = .int d ∧ (d = 4 ∨ d = 5 ∨ d = 6 ∨ d = 7) := by
            rcases hdm with rfl | rfl | rfl | rfl <;> exact ⟨_, rfl, by decide⟩
          have td : Told K H9 (d : Int) (.ref x) v "tick" := .no4 hd (rowAt_same Rj (sD.trans s9)) (noTick_same (sD.trans s9) Tj)
          refine ⟨rfl, _, rfl, _, rfl, _, rfl, _, _, _, _, rfl, td, fun Ha sa => ?_⟩
          refine ⟨_, sa _ _ hw, by rw [List.length_replicate]; omega, same_mut (s9.trans sa) hD, ?_⟩
          rw [upd_same, ← List.replicate_succ']
        rintro H9 ⟨s9, hw⟩
        replace s9 := sD.trans s9
        refine ⟨one_le, fun lw hlw => ?_⟩
        have s10 := same_new (o := HO.lst [V.str "tick"]) hlw
        refine ⟨lw, 4, _, rfl, rfl, upd_same, by decide, by decide, four_le, fun lx hlx => ?_⟩
        have s11 := same_new (o := HO.lst (List.replicate (4 : Int).toNat [V.str "tick"]).flatten) hlx
        have sm := (s9.trans s10).trans s11
        exact no_strs (List.replicate 4 "tick") ((s10.trans s11) _ _ hw) upd_same ⟨_, rfl, iteF ⟨sj.trans sm, _, _, rfl⟩⟩
      rintro σ Hm ⟨sk, o7, o10, rfl⟩
      replace L0 := L0.same sk
      replace sb := sb.trans (.of sk)
      replace hsD := sk _ _ hsD
      clear sk TV Flt
      -- repr of the pairs
      have rgN := gl_rng gN gD gE b19
      have shN : Shw (.list ((norm ps).map pr)) := by
        have z : Sz8s ((5 + 1) * ((norm ps).map pr).length) 2 ((norm ps).map pr) := sz_all fun d hd => by
          obtain ⟨q, hq, rfl⟩ := List.mem_map.mp hd
          exact sz_pr (rgN q hq).2
        refine (sz_lst z).shw ?_ (by decide)
        rw [List.length_map]
        have := gN.len
        omega
      refine ⟨_, rfl, rowm L0.R (fun _ => rfl) ⟨_, _, rfl, L0.R, fun q ys Hn s19 hq0 hq Pq => ?_⟩⟩
      replace L0 := L0.same s19
      replace sb := sb.trans (.of s19)
      replace hsD := s19 _ _ hsD
      refine ⟨_, _, rfl, .lst (sqL_of hq) (dpWs_prs Pq), shN, ?_⟩
      refine ⟨_, rfl, gl, gs, ps, rfl, sqL_of L0.L, L0.P, gw, fun q2 ys2 Ho s20 hq20 hq2 Pq2 => ?_⟩
      replace L0 := L0.same s20
      replace sb := sb.trans (.of s20)
      replace hsD := s20 _ _ hsD
      refine ⟨_, _, rfl, .lst (sqL_of hq2) (dpWs_prs Pq2), shN, rfl, _, rfl, iteE (by simp) ?_⟩
      clear hq hq0 hq2 hq20 Pq Pq2 s19 s20 shN
      -- put together
      refine ⟨_, rfl, _, rfl, (2 : Int), _, _, _, rfl, .fine2 L0.R L0.R gwA, fun Hp sp => ⟨rfl, _, rfl, iteE (by simp) ?_⟩⟩
      replace L0 := L0.same sp
      replace sb := sb.trans (.of sp)
      replace hsD := sp _ _ hsD
      refine ⟨_, rfl, fun xn dn n1' n2' n3' => mk_row1T (ps := []) (T.dfl0 _) .nil Gw.none n1' n2' n3' fun Hq sq Rn => ?_⟩
      replace L0 := L0.same sq
      replace sb := sb.trans (.of sq)
      replace hsD := sq _ _ hsD
      refine ⟨(3 : Int), _, _, _, rfl, .fine3 L0.R Rn gwN (by rw [norm_nil]; exact Gw.none) (by rw [norm_nil, prod_nil]; exact Gw.none), fun Hr sr => ⟨rfl, _, rfl, iteE (by simp) ?_⟩⟩
      exact ⟨sb.trans (.of sr), c0, c2, sr _ _ hsD, by omega, by push_cast; omega, _, _, _, _, _, _, _, _, _, _, rfl⟩
    · rintro σ H' ⟨sb, t0, t2, hs', j0, j1, o1, o2, o3, o4, o5, o6, o7, o8, o9, o10, rfl⟩
      refine ⟨Nat.zero_le _, fun p0 hp0 => ?_⟩
      have q0 := same_new (o := HO.tup []) hp0
      refine ⟨(0 : Int), _, _, _, rfl, .fine0 (sqT_of upd_same), fun Ha sa => ⟨rfl, _, rfl, ?_⟩⟩
      refine iteT' (by simp) ?_
      refine ⟨_, _, rfl, rfl, (by unfold CPow; decide), two_le, fun p2 hp2 => ?_⟩
      have q1 := same_new (o := HO.tup [.int 0, .int 1]) hp2
      refine ⟨two_le, fun p3 hp3 => ?_⟩
      have q2 := same_new (o := HO.tup [.int (10 ^ (59 : Int).toNat), .ref p2]) hp3
      refine ⟨one_le, fun p4 hp4 => ?_⟩
      have q3 := same_new (o := HO.lst [.ref p3]) hp4
      have f2 : FrV K (upd Ha p2 (.tup [.int 0, .int 1])) (.ref p2) 0 := frV_tup upd_same rfl rfl
      have pr3 : PrV K (upd (upd Ha p2 (.tup [.int 0, .int 1])) p3 (.tup [.int (10 ^ (59 : Int).toNat), .ref p2])) (.ref p3) (10 ^ (59 : Int).toNat, 0) := ⟨p3, _, rfl, sqT_of upd_same, frV_same f2 q2⟩
      refine ⟨(1 : Int), _, _, _, rfl, .fine1 (sqL_of upd_same) (.cons (prV_tk pr3 (same_tk q3)) .nil) gw59, fun Hb sb' => ⟨rfl, ?_⟩⟩
      have e : (decide (V.str "fine" = V.str "fine")) = true := by simp
      have z := hQ _ (sb.trans (.of (((q0.trans sa).trans ((q1.trans q2).trans q3)).trans sb')))
      exact z
end
end L05
set_option maxRecDepth 100000
set_option maxHeartbeats 4000000
namespace L05
open PySem PySem.Spec PyProof.Rows L2 Q7
section
variable {P : Program} {w : World} {K : PySem.W.Frag} {mg : Str → Option Value} {base : Heap}
theorem one_le1 : 1 ≤ sizeLine := by decide
/-! ### the law -/
def spLaw (K : PySem.W.Frag) : Sp := fun vs H Q _ => ∃ (a : Addr) (ns : List Int), vs = [.ref a] ∧ SqL K H a (ns.map V.int) ∧ ns.length ≤ 63 ∧ ∀ H', Q (.bl true) H'
theorem cut_ints (ns : List Int) (lo hi : Option Int) : ∃ ms : List Int, cutV (ns.map V.int) lo hi = ms.map V.int ∧ (∀ t ∈ ms, t ∈ ns) ∧ ms.length ≤ ns.length := by
  unfold cutV
  refine ⟨(ns.drop (HT.sIx (ns.map V.int).length 0 lo)).take (HT.sIx (ns.map V.int).length (ns.map V.int).length hi - HT.sIx (ns.map V.int).length 0 lo), ?_, ?_, ?_⟩
  · rw [List.map_take, List.map_drop]
  · intro t ht
    exact List.mem_of_mem_drop (List.mem_of_mem_take ht)
  · rw [List.length_take, List.length_drop]
    omega
theorem ok_law (T : Txt K mg) : FnG P w K mg base 9 (He.ga K "law") T.fd_law ["script"] (spLaw K) := by
  refine okG T.F_law sc_law (fun vs H Q E h => ?_) (fun cdv A outer s H vs Q E g hr h => ⟨_, PSs.nox
    (pss_cons (ps_for PassesOwn.never rfl (pi_enum (by rfl) T.m_enumerate (pa_cons (pe_slice sl_list (pe_op op_catS (pv 0) (pe_lst (pa_cons pe_int pa_nil))) po_none (po_some (pe_callB (call_max2 rfl) (by rfl) T.m_max (by decide +kernel) (pa_cons pe_int (pa_cons (pe_callB (call_min2 rfl) (by rfl) T.m_min (by decide +kernel) (pa_cons (pe_callB call_len_seq (by rfl) T.m_len (by decide +kernel) (pa_cons (pv 0) pa_nil)) (pa_cons pe_int pa_nil))) pa_nil))))) pa_nil)) (pg_tup rfl (pgs_cons (pg_name (i := 1) sc_law.nd rfl (.inl rfl)) (pgs_cons (pg_name (i := 2) sc_law.nd rfl (.inl rfl)) pgs_nil))) (pss_one (ps_if (pt_not (pt_val (pe_callG (ok__law_holds T) (hr.mono (by decide)) g (by rfl) T.g__law_holds T.F__law_holds.kp T.b__law_holds (pa_cons (pe_call (ok__law_source T) (hr.mono (by decide)) (by rfl) T.g__law_source T.F__law_source.kp T.b__law_source .nil pass0 (pa_cons (pv 2) (pa_cons (pv 1) pa_nil))) pa_nil)))) (pss_one (ps_ret pe_bl)) pss_nil)))
      (pss_one (ps_ret pe_bl))), ?_⟩)
  · obtain ⟨a, ns, rfl, _⟩ := h
    rfl
  · obtain ⟨a, ns, rfl, S, hl, hQ⟩ := h
    have l64 := line64
    refine ⟨_, rfl, one_le1, fun z hz => ?_⟩
    have s1 := same_new (o := .lst [.int 0]) hz
    refine ⟨a, z, _, _, rfl, rfl, Q7.sqL_same s1 S, sqL_of upd_same, by rw [List.length_map]; show _ + 1 ≤ _; omega, fun p hp => ?_⟩
    have s2 := s1.trans (same_new (o := .lst (ns.map V.int ++ [.int 0])) hp)
    refine ⟨_, rfl, a, _, rfl, .inl (Q7.sqL_same s2 S), _, _, rfl, _, _, rfl, ?_⟩
    obtain ⟨cs, hcs, _, hcl⟩ := cut_ints (ns ++ [0]) none (some (if (if (8 : Int) < ((ns.map V.int).length : Int) then (8 : Int) else ((ns.map V.int).length : Int)) > 1 then (if (8 : Int) < ((ns.map V.int).length : Int) then (8 : Int) else ((ns.map V.int).length : Int)) else 1))
    refine ⟨_, rfl, p, _, rfl, sqL_of upd_same, fun m hm => ?_⟩
    have hm2 := upd_same (H := upd (upd H z (.lst [.int 0])) p (.lst (ns.map V.int ++ [.int 0]))) (a := m) (o := .lst (cs.map V.int))
    rw [show ns.map V.int ++ [V.int 0] = (ns ++ [0]).map V.int by rw [List.map_append]; rfl] at *
    rw [hcs]
    generalize upd (upd (upd H z (.lst [.int 0])) p (.lst ((ns ++ [0]).map V.int))) m (.lst (cs.map V.int)) = H5 at *
    have hcl2 : cs.length ≤ 64 := by rw [List.length_append, List.length_singleton] at hcl; omega
    refine ⟨m, _, rfl, sqL_of hm2, ?_⟩
    refine for_it (walk_enum (K := K) (a := m) (xs := cs.map V.int)) (fun i σ H' => H' m = some (.lst (cs.map V.int)) ∧ ∃ o1 o2, σ = [some (.ref a), o1, o2]) ⟨hm2, _, _, rfl⟩ (fun i σ H' _ q => sqL_of q.1) ?_ ?_
    · rintro i v σ H' H'' hi ⟨hM, o1, o2, rfl⟩ ⟨TT', x, y, rfl, hT, rfl, hx, hy⟩
      cases hx
      have hi2 : i < cs.length := by rwa [List.length_map] at hi
      have hy' : (cs.map V.int)[i]? = some y := hy
      rw [List.getElem?_map, List.getElem?_eq_getElem hi2] at hy'
      cases hy'
      have mT : m ≠ TT' := ne_of_none hM hT
      refine ⟨TT', _, rfl, sqT_of upd_same, rfl, _, _, rfl, _, _, rfl, rfl, ?_⟩
      refine ⟨_, rfl, _, rfl, _, _, rfl, by omega, by omega, fun b t0 t1 hb e => ?_⟩
      have hM1 : upd H' TT' (.tup [.int (i : Nat), .int cs[i]]) m = some (.lst (cs.map V.int)) := by rw [upd_ne mT]; exact hM
      have mb : m ≠ b := ne_of_none hM1 hb
      refine ⟨b, t0, t1, 0, rfl, upd_same, by decide, by decide, e, fun H2 sb => ⟨_, rfl, iteF ?_⟩⟩
      exact ⟨sb _ _ (by rw [upd_ne mb]; exact hM1) mb, _, _, rfl⟩
    · rintro σ H' ⟨hM, o1, o2, rfl⟩
      exact hQ H'
end
end L05
set_option maxRecDepth 100000
set_option maxHeartbeats 4000000
namespace L05
open PySem PySem.Spec PyProof.Rows L2 Q7
section
variable {P : Program} {w : World} {K : PySem.W.Frag} {mg : Str → Option Value} {base : Heap}
/-! ### the head -/
abbrev R : PySem.W.OpenRow := PySem.W.OpenLaw.row PySem.Challenge.rw_prepaidplans_k05_errors_of_rows
abbrev hk : PySem.W.Hook := hookY 6 fas fns exs
def ob (s : PySem.W.SharedT) : He.AlD × Bool := obY 6 fas fns exs (HandSHeadRun.getT s)
theorem ob_eq (s : PySem.W.SharedT) : ob s = hk.obs s.abs := obY_eq (HandSHeadRun.getT_eq s)
def loose0 : List Str := ["is_whole", "is_tick", "is_fraction", "sum_of", "_reduced", "_sum", "_product", "_is_pair", "_check_tick", "_check_row", "_law_source", "_law_draw", "_law_divisor", "_law_made", "_law_pairs", "_law_sums", "_law_told", "_law_bad_pair", "_law_holds", "_law_shuffled", "PlanError", "InvalidFraction", "InvalidRow", "InvalidTick", "InvalidName", "InvalidTask", "InvalidNumber", "InvalidTasks", "Row", "ZERO"]
def loose1 : List Str := ["gcd"]
def looses : List Str := loose0 ++ loose1
set_option maxHeartbeats 0 in
theorem run (w : World) : HandSHeadRun.RunEqI R (PySem.W.view R.prog [35]) hk ob 9000 looses w := by
  unfold HandSHeadRun.RunEqI
  kernel_rfl
theorem fin {h : Heap} {f : Addr} (X : K.In h) (G : h.Ns mainGlobals mg) (hfa : mg ("law" : Str) = some (.ref f)) (c : He.SaysD fas fns K) (x : (exs.all fun f => f K) = true) :
    ∃ fd : FuncData, (∀ (s : Shared) (v : Value), BindsTo s fd ⟨[v], []⟩ [("script", v)]) ∧ ∀ base : Heap, K.In base → base.Ns mainGlobals mg → FnG P w K mg base 9 f fd ["script"] (spLaw K) := by
  obtain ⟨T⟩ := txt X G c x
  have e := hfa.symm.trans T.g_law
  cases e
  have b := FunD.bindsA (ps := ["script"]) T.F_law fun _ _ _ _ _ _ us hl => match us, hl with | [_], _ => rfl
  exact ⟨T.fd_law, fun s v => b s [v] rfl, fun base _ _ => ok_law T⟩
end
end L05
open PySem PySem.W PySem.Calls PyProof.Rows
theorem PySem.Challenge.cw_prepaidplans_k05_errors_of_rows_holds : PySem.Challenge.rw_prepaidplans_k05_errors_of_rows.Holds := by
  w_on; o_law
  refine HandSHeadRun.head_imp (r := OpenLaw.row PySem.Challenge.rw_prepaidplans_k05_errors_of_rows) (q := view (OpenLaw.row PySem.Challenge.rw_prepaidplans_k05_errors_of_rows).prog [35]) (H := L05.hk) (ob := L05.ob) (M := 9000) (loose := L05.looses) (d := HandSHeadRun.topDef (OpenLaw.row PySem.Challenge.rw_prepaidplans_k05_errors_of_rows).prog 35) (kwd := []) L05.ob_eq
    L05.run (by kernel_rfl) (by kernel_rfl) (by kernel_rfl) (by rfl) (by first | assumption | decide +kernel) (by decide +kernel) ⟨rfl, rfl, rfl, rfl, rfl, by decide +kernel⟩ ?hw ?hc
  case hw => w_witness2
  case hc =>
    refine Q7.walk_ofG (l := PySem.Challenge.rw_prepaidplans_k05_errors_of_rows) (most := 63) (lev := 9) (x := "script") rfl (by decide) (by kernel_rfl) ⟨rfl, by decide, by decide⟩ ?F
    intro w mg fa h Y G hmg0
    obtain ⟨K, KX, c, x⟩ := Y
    have hmg : mg ("law" : PySem.Str) = some (.ref fa) := by
      have e : (HandSHeadRun.topDef (OpenLaw.row PySem.Challenge.rw_prepaidplans_k05_errors_of_rows).prog 35).name = ("law" : PySem.Str) := by kernel_rfl
      rw [← e]
      exact hmg0
    obtain ⟨fd, hb, hF⟩ := L05.fin (P := (PySem.Challenge.rw_prepaidplans_k05_errors_of_rows).prog) (w := w) KX G hmg c x
    exact ⟨K, fd, L05.spLaw K, KX, hb, fun H a ns hl hS => ⟨a, ns, rfl, hS, hl, fun _ => rfl⟩, hF⟩
