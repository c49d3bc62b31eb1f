import PyProof.Rows.All
import Wide.All
import OpenK.AllK
import Wide.FinOn
import PyProof.InstNe
import HandS.ForMost
import HandS.Wide
import HandS.WideBits
import HandS.Gcd
import HandS.IsInst
import HandS.DictEq
import HandS.DictComp
import HandS.ListItems
import HandS.Defaults
import HandS.SlotsOwn
import HandS.Style
import HandS.Head0
import HandS.Head1
import HandS.Head2
import HandS.HeadEnd
import HandS.HeadHook1
import HandS.HeadHook2
import HandS.WordsList
import PyProof.ReprRoads
import HandS.Head3
import KE.DatumIndex
import PyProof.ReprBulk
import PyProof.Rows.RegStrFacts
import HandS.MakeKw
import HandS.ForExc
import HandS.ExcValue
import HandS.ExcIs
import HandS.ExcInit
import HandS.Nested
import HandS.FStr
import HandS.ExcField
import HandS.ExcSuper
import KE.KSuper
import KE.KExcSuper
import HandS.HeadHook3
import PyProof.StrOps2
import PySem.Challenge.RW_prepaidplans_k88_errors_are_distinct
set_option Elab.async false
set_option linter.all false
namespace Q7
/-! ### fractions in lowest terms are rationals -/
theorem div_num_pos (a : Int) {b : Int} (hb : 0 < b) : (Rat.divInt a b).num = a / ((Nat.gcd a.natAbs b.natAbs : Nat) : Int) ∧ ((Rat.divInt a b).den : Int) = b / ((Nat.gcd a.natAbs b.natAbs : Nat) : Int) := by
  rw [Rat.num_divInt, Rat.den_divInt, if_neg (by omega), Int.sign_eq_one_of_pos hb, Int.one_mul]
  have e : b.gcd a = Nat.gcd a.natAbs b.natAbs := by rw [Int.gcd_comm]; rfl
  refine ⟨by rw [e], ?_⟩
  rw [e]
  have h1 : ((b.natAbs / Nat.gcd a.natAbs b.natAbs : Nat) : Int) = (b.natAbs : Int) / ((Nat.gcd a.natAbs b.natAbs : Nat) : Int) := by simp
  rw [h1, Int.natAbs_of_nonneg (by omega)]
theorem div_num_neg (a : Int) {b : Int} (hb : b < 0) : (Rat.divInt a b).num = a / (-((Nat.gcd a.natAbs b.natAbs : Nat) : Int)) ∧ ((Rat.divInt a b).den : Int) = b / (-((Nat.gcd a.natAbs b.natAbs : Nat) : Int)) := by
  have e : Rat.divInt a b = Rat.divInt (-a) (-b) := by
    rw [Rat.neg_divInt_neg]
  have h := div_num_pos (-a) (b := -b) (by omega)
  rw [e]
  rw [Int.natAbs_neg, Int.natAbs_neg] at h
  have g1 : ((Nat.gcd a.natAbs b.natAbs : Nat) : Int) ∣ a := by
    have := Nat.gcd_dvd_left a.natAbs b.natAbs
    exact Int.dvd_natAbs.mp (Int.ofNat_dvd.mpr this)
  have g2 : ((Nat.gcd a.natAbs b.natAbs : Nat) : Int) ∣ b := by
    have := Nat.gcd_dvd_right a.natAbs b.natAbs
    exact Int.dvd_natAbs.mp (Int.ofNat_dvd.mpr this)
  rw [Int.ediv_neg, Int.ediv_neg]
  rw [h.1, h.2, Int.neg_ediv_of_dvd g1, Int.neg_ediv_of_dvd g2]
  exact ⟨rfl, rfl⟩
/-- what the program's reduction gives -/
theorem red (a b : Int) (hb : b ≠ 0) (d : Int) (hd : d = if b < 0 then -((Nat.gcd a.natAbs b.natAbs : Nat) : Int) else ((Nat.gcd a.natAbs b.natAbs : Nat) : Int)) :
    a.fdiv d = (Rat.divInt a b).num ∧ b.fdiv d = ((Rat.divInt a b).den : Int) ∧ d ≠ 0 := by
  have hg : 0 < Nat.gcd a.natAbs b.natAbs := Nat.gcd_pos_of_pos_right _ (by omega)
  have g1 : ((Nat.gcd a.natAbs b.natAbs : Nat) : Int) ∣ a := Int.dvd_natAbs.mp (Int.ofNat_dvd.mpr (Nat.gcd_dvd_left a.natAbs b.natAbs))
  have g2 : ((Nat.gcd a.natAbs b.natAbs : Nat) : Int) ∣ b := Int.dvd_natAbs.mp (Int.ofNat_dvd.mpr (Nat.gcd_dvd_right a.natAbs b.natAbs))
  by_cases h : b < 0
  · rw [if_pos h] at hd
    subst hd
    have q := div_num_neg a h
    rw [Int.fdiv_eq_ediv_of_dvd (Int.neg_dvd.mpr g1), Int.fdiv_eq_ediv_of_dvd (Int.neg_dvd.mpr g2), q.1, q.2]
    exact ⟨rfl, rfl, by omega⟩
  · rw [if_neg h] at hd
    subst hd
    have q := div_num_pos a (b := b) (by omega)
    rw [Int.fdiv_eq_ediv_of_dvd g1, Int.fdiv_eq_ediv_of_dvd g2, q.1, q.2]
    exact ⟨rfl, rfl, by omega⟩
theorem rat_gcd (q : Rat) : Nat.gcd q.num.natAbs ((q.den : Int)).natAbs = 1 := q.reduced
theorem add_eq (p q : Rat) : p + q = Rat.divInt (p.num * q.den + q.num * p.den) ((p.den : Int) * q.den) := by
  rw [Rat.add_def', ← Rat.divInt_ofNat]
  simp
theorem mul_eq (p q : Rat) : p * q = Rat.divInt (p.num * q.num) ((p.den : Int) * q.den) := by
  rw [Rat.mul_def']
  rw [← Rat.divInt_ofNat]
  simp
theorem divq_eq (p q : Rat) : p / q = Rat.divInt (p.num * q.den) ((p.den : Int) * q.num) := by
  rw [Rat.div_def, Rat.inv_def]
  conv => lhs; lhs; rw [← Rat.num_divInt_den p]
  rw [Rat.divInt_mul_divInt]
theorem den_pos (q : Rat) : (0 : Int) < q.den := by have := q.den_pos; omega
theorem den_mul_pos (p q : Rat) : (0 : Int) < (p.den : Int) * q.den := Int.mul_pos (den_pos p) (den_pos q)
/-! ### sizes -/
def B (n : Nat) (q : Rat) : Prop := q.num.natAbs < 2 ^ n ∧ q.den < 2 ^ n
theorem B.mono {n m : Nat} {q : Rat} (h : B n q) (hm : n ≤ m) : B m q := ⟨Nat.lt_of_lt_of_le h.1 (Nat.pow_le_pow_right (by omega) hm), Nat.lt_of_lt_of_le h.2 (Nat.pow_le_pow_right (by omega) hm)⟩
theorem div_le (a b : Int) (hb : b ≠ 0) : (Rat.divInt a b).num.natAbs ≤ a.natAbs ∧ (Rat.divInt a b).den ≤ b.natAbs := by
  refine ⟨?_, ?_⟩
  · rw [Rat.num_divInt]
    have h : (b.sign * a / ((b.gcd a : Nat) : Int)).natAbs ≤ (b.sign * a).natAbs := Int.natAbs_ediv_le_natAbs _ _
    refine Nat.le_trans h ?_
    rw [Int.natAbs_mul, Int.natAbs_sign_of_ne_zero hb, Nat.one_mul]
    exact Nat.le_refl _
  · rw [Rat.den_divInt, if_neg hb]
    exact Nat.div_le_self _ _
theorem B.div {n : Nat} {a b : Int} (ha : a.natAbs < 2 ^ n) (hb : b.natAbs < 2 ^ n) (h0 : b ≠ 0) : B n (Rat.divInt a b) := ⟨Nat.lt_of_le_of_lt (div_le a b h0).1 ha, Nat.lt_of_le_of_lt (div_le a b h0).2 hb⟩
theorem abs_mul_lt {a b : Int} {n m : Nat} (ha : a.natAbs < 2 ^ n) (hb : b.natAbs < 2 ^ m) : (a * b).natAbs < 2 ^ (n + m) := by
  rw [Int.natAbs_mul, Nat.pow_add]
  exact Nat.mul_lt_mul'' ha hb
theorem B.add {n m : Nat} {p q : Rat} (hp : B n p) (hq : B m q) : B (n + m + 1) (p + q) := by
  rw [add_eq]
  have h1 := abs_mul_lt (a := p.num) (b := q.den) hp.1 (by simpa using hq.2)
  have h2 := abs_mul_lt (a := q.num) (b := p.den) hq.1 (by simpa using hp.2)
  have h3 := abs_mul_lt (a := p.den) (b := q.den) (n := n) (m := m) (by simpa using hp.2) (by simpa using hq.2)
  refine B.div ?_ ?_ (Int.ne_of_gt (den_mul_pos p q))
  · rw [Nat.pow_succ]
    rw [Nat.add_comm m n] at h2
    omega
  · rw [Nat.pow_succ]
    omega
theorem B.mul {n m : Nat} {p q : Rat} (hp : B n p) (hq : B m q) : B (n + m) (p * q) := by
  rw [mul_eq]
  exact B.div (abs_mul_lt hp.1 hq.1) (abs_mul_lt (by simpa using hp.2) (by simpa using hq.2)) (Int.ne_of_gt (den_mul_pos p q))
theorem B.neg {n : Nat} {q : Rat} (h : B n q) : B n (-q) := ⟨by rw [Rat.neg_num, Int.natAbs_neg]; exact h.1, h.2⟩
theorem B.zero : B 1 0 := ⟨by decide, by decide⟩

/-! ### rows: lists of pairs, seen through all weights -/
abbrev Rw := List (Int × Rat)
def wt (f : Int → Rat) : Rw → Rat
  | [] => 0
  | (t, q) :: r => q * f t + wt f r
theorem wt_append (f : Int → Rat) : ∀ a b : Rw, wt f (a ++ b) = wt f a + wt f b
  | [], b => by simp [wt, Rat.zero_add]
  | (t, q) :: r, b => by
    simp only [List.cons_append, wt, wt_append f r b]
    grind
theorem wt_perm (f : Int → Rat) {a b : Rw} (h : a.Perm b) : wt f a = wt f b := by
  induction h with
  | nil => rfl
  | cons x _ ih => obtain ⟨t, q⟩ := x; simp only [wt, ih]
  | swap x y l => obtain ⟨t, q⟩ := x; obtain ⟨u, r⟩ := y; simp only [wt]; grind
  | trans _ _ h1 h2 => exact h1.trans h2
theorem wt_filter (f : Int → Rat) : ∀ a : Rw, wt f (a.filter fun p => decide (p.2 ≠ 0)) = wt f a
  | [] => rfl
  | (t, q) :: r => by
    have ih := wt_filter f r
    by_cases h : q = 0
    · subst h
      simp only [List.filter, wt]
      simp only [ne_eq, not_true_eq_false, decide_false]
      rw [ih]
      grind
    · have : decide (q ≠ 0) = true := by simp [h]
      simp only [List.filter, this, wt, ih]
/-- the weights at one tick -/
def at_ (t : Int) : Int → Rat := fun u => if u = t then 1 else 0
/-- strictly ascending, without zeros -/
structure Nf (a : Rw) : Prop where
  asc : a.Pairwise fun x y => x.1 < y.1
  nz : ∀ p ∈ a, p.2 ≠ 0
theorem wt_at_none {t : Int} : ∀ {a : Rw}, (∀ p ∈ a, p.1 ≠ t) → wt (at_ t) a = 0
  | [], _ => rfl
  | (u, q) :: r, h => by
    have h1 : u ≠ t := h (u, q) List.mem_cons_self
    simp only [wt, at_, if_neg h1, wt_at_none (a := r) fun p hp => h p (List.mem_cons_of_mem _ hp)]
    grind
theorem wt_at_head {t : Int} {q : Rat} {r : Rw} (h : ∀ p ∈ r, p.1 ≠ t) : wt (at_ t) ((t, q) :: r) = q := by
  simp only [wt, at_, wt_at_none h]
  simp only [if_pos]
  grind
theorem Nf.tail {p : Int × Rat} {r : Rw} (h : Nf (p :: r)) : Nf r := ⟨(List.pairwise_cons.mp h.asc).2, fun x hx => h.nz x (List.mem_cons_of_mem _ hx)⟩
theorem Nf.head {p : Int × Rat} {r : Rw} (h : Nf (p :: r)) : ∀ x ∈ r, p.1 < x.1 := (List.pairwise_cons.mp h.asc).1
/-- two normal rows of equal weights are one -/
theorem Nf.eq : ∀ {a b : Rw}, Nf a → Nf b → (∀ f, wt f a = wt f b) → a = b
  | [], [], _, _, _ => rfl
  | [], (t, q) :: r, _, hb, h => by
    have h1 := h (at_ t)
    rw [wt_at_head fun p hp => Ne.symm (Int.ne_of_lt (hb.head p hp))] at h1
    exact absurd h1.symm (hb.nz _ List.mem_cons_self)
  | (t, q) :: r, [], ha, _, h => by
    have h1 := h (at_ t)
    rw [wt_at_head fun p hp => Ne.symm (Int.ne_of_lt (ha.head p hp))] at h1
    exact absurd h1 (ha.nz _ List.mem_cons_self)
  | (t, q) :: r, (u, x) :: s, ha, hb, h => by
    have hr : ∀ p ∈ r, p.1 ≠ t := fun p hp => Ne.symm (Int.ne_of_lt (ha.head p hp))
    have hs : ∀ p ∈ s, p.1 ≠ u := fun p hp => Ne.symm (Int.ne_of_lt (hb.head p hp))
    have e : t = u := by
      rcases Int.lt_trichotomy t u with l | l | l
      · have h1 := h (at_ t)
        rw [wt_at_head hr, wt_at_none (a := (u, x) :: s)] at h1
        · exact absurd h1 (ha.nz _ List.mem_cons_self)
        · intro p hp
          rcases List.mem_cons.mp hp with rfl | hp
          · exact Ne.symm (Int.ne_of_lt l)
          · exact Ne.symm (Int.ne_of_lt (Int.lt_trans l (hb.head p hp)))
      · exact l
      · have h1 := h (at_ u)
        rw [wt_at_head hs, wt_at_none (a := (t, q) :: r)] at h1
        · exact absurd h1.symm (hb.nz _ List.mem_cons_self)
        · intro p hp
          rcases List.mem_cons.mp hp with rfl | hp
          · exact Ne.symm (Int.ne_of_lt l)
          · exact Ne.symm (Int.ne_of_lt (Int.lt_trans l (ha.head p hp)))
    subst e
    have h1 := h (at_ t)
    rw [wt_at_head hr, wt_at_head hs] at h1
    subst h1
    have h2 : r = s := Nf.eq ha.tail hb.tail fun f => by
      have := h f
      simp only [wt] at this
      grind
    rw [h2]

/-! ### a dict of sums -/
/-- m[t] = m.get(t, 0) + q, in the order of insertion -/
def putS (m : Rw) (t : Int) (q : Rat) : Rw := match m with
  | [] => [(t, 0 + q)]
  | (u, x) :: r => if u = t then (u, x + q) :: r else (u, x) :: putS r t q
theorem wt_put (f : Int → Rat) (t : Int) (q : Rat) : ∀ m : Rw, wt f (putS m t q) = wt f m + q * f t
  | [] => by simp only [putS, wt]; grind
  | (u, x) :: r => by
    unfold putS
    by_cases h : u = t
    · rw [if_pos h]; subst h; simp only [wt]; grind
    · rw [if_neg h]; simp only [wt, wt_put f t q r]; grind
theorem put_keys (t : Int) (q : Rat) : ∀ m : Rw, (putS m t q).map (·.1) = if t ∈ m.map (·.1) then m.map (·.1) else m.map (·.1) ++ [t]
  | [] => by simp [putS]
  | (u, x) :: r => by
    unfold putS
    by_cases h : u = t
    · rw [if_pos h]; subst h; simp
    · rw [if_neg h]
      have ih := put_keys t q r
      simp only [List.map_cons, ih, List.mem_cons]
      by_cases h2 : t ∈ r.map (·.1)
      · rw [if_pos h2, if_pos (Or.inr h2)]
      · rw [if_neg h2, if_neg (by rintro (e | e); exact h e.symm; exact h2 e)]
        rfl
theorem put_nodup {m : Rw} (t : Int) (q : Rat) (h : (m.map (·.1)).Nodup) : ((putS m t q).map (·.1)).Nodup := by
  rw [put_keys]
  by_cases h2 : t ∈ m.map (·.1)
  · rw [if_pos h2]; exact h
  · rw [if_neg h2]
    rw [List.nodup_append]
    refine ⟨h, by simp, ?_⟩
    intro a ha b hb e
    simp only [List.mem_singleton] at hb
    subst hb; subst e
    exact h2 ha
def sums (ps : Rw) : Rw := ps.foldl (fun m p => putS m p.1 p.2) []
theorem wt_sums_go (f : Int → Rat) : ∀ (ps m : Rw), wt f (ps.foldl (fun m p => putS m p.1 p.2) m) = wt f m + wt f ps
  | [], m => by simp only [List.foldl, wt]; grind
  | (t, q) :: r, m => by simp only [List.foldl, wt_sums_go f r, wt_put, wt]; grind
theorem wt_sums (f : Int → Rat) (ps : Rw) : wt f (sums ps) = wt f ps := by
  unfold sums
  rw [wt_sums_go]
  simp only [wt]
  grind
theorem sums_nodup_go : ∀ (ps m : Rw), (m.map (·.1)).Nodup → ((ps.foldl (fun m p => putS m p.1 p.2) m).map (·.1)).Nodup
  | [], _, h => h
  | (t, q) :: r, m, h => sums_nodup_go r _ (put_nodup t q h)
theorem sums_nodup (ps : Rw) : ((sums ps).map (·.1)).Nodup := sums_nodup_go ps [] (by simp)
theorem sums_snoc (ps : Rw) (p : Int × Rat) : sums (ps ++ [p]) = putS (sums ps) p.1 p.2 := by unfold sums; rw [List.foldl_append]; rfl
def look (m : Rw) (t : Int) : Rat := match m with
  | [] => 0
  | (u, x) :: r => if u = t then x else look r t
/-- the ticks ys, in this order, with their sums, without zeros -/
def pick (m : Rw) (ys : List Int) : Rw := (ys.map fun t => (t, look m t)).filter fun p => decide (p.2 ≠ 0)
theorem look_self : ∀ {m : Rw}, (m.map (·.1)).Nodup → (m.map (·.1)).map (fun t => (t, look m t)) = m
  | [], _ => rfl
  | (u, x) :: r, h => by
    have h1 := List.nodup_cons.mp h
    simp only [List.map_cons, look, if_pos]
    congr 1
    have ih := look_self (m := r) h1.2
    conv => rhs; rw [← ih]
    apply List.map_congr_left
    intro t ht
    rw [if_neg (fun e => h1.1 (by rw [e]; exact ht))]
theorem pick_nf {m : Rw} {ys : List Int} (hn : (m.map (·.1)).Nodup) (hp : ys.Perm (m.map (·.1))) (hs : ys.Pairwise (· ≤ ·)) : Nf (pick m ys) := by
  have hs2 : ys.Pairwise (· < ·) := by
    have nd : ys.Nodup := hp.nodup_iff.mpr hn
    have := List.Pairwise.and hs nd
    exact this.imp fun h => Int.lt_iff_le_and_ne.mpr h
  refine ⟨?_, ?_⟩
  · unfold pick
    apply List.Pairwise.filter
    rw [List.pairwise_map]
    exact hs2
  · intro p hp'
    have := (List.mem_filter.mp hp').2
    simpa using this
theorem wt_pick (f : Int → Rat) {m : Rw} {ys : List Int} (hn : (m.map (·.1)).Nodup) (hp : ys.Perm (m.map (·.1))) : wt f (pick m ys) = wt f m := by
  unfold pick
  rw [wt_filter]
  rw [wt_perm f (hp.map fun t => (t, look m t)), look_self hn]
/-- the normal row of a list of pairs -/
def norm (ps : Rw) : Rw := pick (sums ps) (((sums ps).map (·.1)).mergeSort)
theorem norm_nf (ps : Rw) : Nf (norm ps) := pick_nf (sums_nodup ps) (List.mergeSort_perm _ _) (by
  have h := List.pairwise_mergeSort (le := fun (a b : Int) => decide (a ≤ b)) (fun a b c h1 h2 => by simp only [decide_eq_true_eq] at *; omega) (fun a b => by simp only [Bool.or_eq_true, decide_eq_true_eq]; omega) ((sums ps).map (·.1))
  exact h.imp fun h => of_decide_eq_true h)
theorem wt_norm (f : Int → Rat) (ps : Rw) : wt f (norm ps) = wt f ps := by
  unfold norm
  rw [wt_pick f (sums_nodup ps) (List.mergeSort_perm _ _), wt_sums]
theorem norm_pick {ps : Rw} {ys : List Int} (hp : ys.Perm ((sums ps).map (·.1))) (hs : ys.Pairwise (· ≤ ·)) : pick (sums ps) ys = norm ps :=
  Nf.eq (pick_nf (sums_nodup ps) hp hs) (norm_nf ps) fun f => by rw [wt_norm, wt_pick f (sums_nodup ps) hp, wt_sums]
theorem norm_eq {a b : Rw} (h : ∀ f, wt f a = wt f b) : norm a = norm b := Nf.eq (norm_nf a) (norm_nf b) fun f => by rw [wt_norm, wt_norm, h f]
theorem norm_of {a b : Rw} (ha : Nf a) (h : ∀ f, wt f a = wt f b) : norm b = a := Nf.eq (norm_nf b) ha fun f => by rw [wt_norm, h f]
theorem norm_self {a : Rw} (ha : Nf a) : norm a = a := norm_of ha fun _ => rfl
/-- the product, pair by pair -/
def prod (a b : Rw) : Rw := a.flatMap fun p => b.map fun q => (p.1 + q.1, p.2 * q.2)
theorem wt_map (f : Int → Rat) (t : Int) (x : Rat) : ∀ b : Rw, wt f (b.map fun q => (t + q.1, x * q.2)) = x * wt (fun u => f (t + u)) b
  | [] => by simp only [List.map, wt]; grind
  | (u, y) :: r => by simp only [List.map, wt, wt_map f t x r]; grind
theorem wt_prod (f : Int → Rat) : ∀ a b : Rw, wt f (prod a b) = wt (fun t => wt (fun u => f (t + u)) b) a
  | [], b => rfl
  | (t, x) :: r, b => by
    show wt f ((b.map fun q => (t + q.1, x * q.2)) ++ prod r b) = _
    rw [wt_append, wt_map, wt_prod f r b]
    rfl
theorem wt_add (f g : Int → Rat) : ∀ a : Rw, wt (fun t => f t + g t) a = wt f a + wt g a
  | [] => by simp only [wt]; grind
  | (t, q) :: r => by simp only [wt, wt_add f g r]; grind
theorem wt_smul (x : Rat) (f : Int → Rat) : ∀ a : Rw, wt (fun t => x * f t) a = x * wt f a
  | [] => by simp only [wt]; grind
  | (t, q) :: r => by simp only [wt, wt_smul x f r]; grind
theorem wt_zero : ∀ a : Rw, wt (fun _ => 0) a = 0
  | [] => rfl
  | (t, q) :: r => by simp only [wt, wt_zero r]; grind
theorem wt_swap (F : Int → Int → Rat) : ∀ a b : Rw, wt (fun t => wt (F t) b) a = wt (fun u => wt (fun t => F t u) a) b
  | [], b => by simp only [wt]; rw [wt_zero]
  | (t, x) :: r, b => by
    simp only [wt]
    rw [wt_swap F r b, ← wt_smul, ← wt_add]
end Q7
set_option maxHeartbeats 2000000
namespace Q7
/-- q is n / D with n of size at most M -/
def ND (D M : Nat) (q : Rat) : Prop := ∃ n : Int, q = Rat.divInt n D ∧ n.natAbs ≤ M
theorem ND.mono {D M M' : Nat} {q : Rat} (h : ND D M q) (l : M ≤ M') : ND D M' q := by
  obtain ⟨n, e, b⟩ := h
  exact ⟨n, e, by omega⟩
theorem ND.zero (D : Nat) : ND D 0 0 := ⟨0, by rw [Rat.zero_divInt], by decide⟩
theorem ND.zeroM (D M : Nat) : ND D M 0 := (ND.zero D).mono (by omega)
theorem ND.add {D M M' : Nat} {p q : Rat} (hD : 0 < D) (hp : ND D M p) (hq : ND D M' q) : ND D (M + M') (p + q) := by
  obtain ⟨n, rfl, b⟩ := hp
  obtain ⟨m, rfl, c⟩ := hq
  refine ⟨n + m, ?_, by omega⟩
  have hD' : (D : Int) ≠ 0 := by omega
  rw [Rat.divInt_add_divInt _ _ hD' hD', ← Int.add_mul]
  exact Rat.divInt_mul_right (by omega)
theorem ND.neg {D M : Nat} {q : Rat} (h : ND D M q) : ND D M (-q) := by
  obtain ⟨n, rfl, b⟩ := h
  exact ⟨-n, by rw [Rat.neg_divInt], by omega⟩
theorem ND.mul {D M D' M' : Nat} {p q : Rat} (hp : ND D M p) (hq : ND D' M' q) : ND (D * D') (M * M') (p * q) := by
  obtain ⟨n, rfl, b⟩ := hp
  obtain ⟨m, rfl, c⟩ := hq
  refine ⟨n * m, ?_, ?_⟩
  · rw [Rat.divInt_mul_divInt]
    rw [Int.natCast_mul]
  · rw [Int.natAbs_mul]
    exact Nat.mul_le_mul b c
theorem ND.scale {D M k : Nat} {q : Rat} (hk : 0 < k) (h : ND D M q) : ND (D * k) (M * k) q := by
  obtain ⟨n, rfl, b⟩ := h
  refine ⟨n * k, ?_, ?_⟩
  · rw [Int.natCast_mul]
    exact (Rat.divInt_mul_right (by omega)).symm
  · rw [Int.natAbs_mul, Int.natAbs_natCast]
    exact Nat.mul_le_mul b (Nat.le_refl _)
theorem ND.B {D M n : Nat} {q : Rat} (hD : 0 < D) (h : ND D M q) (h1 : D < 2 ^ n) (h2 : M < 2 ^ n) : B n q := by
  obtain ⟨m, rfl, b⟩ := h
  exact B.div (by omega) (by omega) (by omega)
/-- a list of pairs within bounds -/
structure Gd (D M T L : Nat) (ps : Rw) : Prop where
  nd : ∀ p ∈ ps, ND D M p.2
  lo : ∀ p ∈ ps, 0 ≤ p.1
  hi : ∀ p ∈ ps, p.1 ≤ T
  len : ps.length ≤ L
theorem Gd.mono {D M T L M' T' L' : Nat} {ps : Rw} (h : Gd D M T L ps) (h1 : M ≤ M') (h2 : T ≤ T') (h3 : L ≤ L') : Gd D M' T' L' ps :=
  ⟨fun p hp => (h.nd p hp).mono h1, h.lo, fun p hp => by have := h.hi p hp; omega, by have := h.len; omega⟩
theorem Gd.app {D M T L L' : Nat} {a b : Rw} (ha : Gd D M T L a) (hb : Gd D M T L' b) : Gd D M T (L + L') (a ++ b) := by
  refine ⟨?_, ?_, ?_, ?_⟩
  · intro p hp; rcases List.mem_append.mp hp with h | h; exact ha.nd p h; exact hb.nd p h
  · intro p hp; rcases List.mem_append.mp hp with h | h; exact ha.lo p h; exact hb.lo p h
  · intro p hp; rcases List.mem_append.mp hp with h | h; exact ha.hi p h; exact hb.hi p h
  · rw [List.length_append]; have := ha.len; have := hb.len; omega
theorem Gd.sub {D M T L : Nat} {a b : Rw} (h : Gd D M T L b) (s : a.Sublist b) : Gd D M T L a :=
  ⟨fun p hp => h.nd p (s.subset hp), fun p hp => h.lo p (s.subset hp), fun p hp => h.hi p (s.subset hp), Nat.le_trans s.length_le h.len⟩
theorem Gd.prod {D M T L D' M' T' L' : Nat} {a b : Rw} (ha : Gd D M T L a) (hb : Gd D' M' T' L' b) : Gd (D * D') (M * M') (T + T') (L * L') (prod a b) := by
  refine ⟨?_, ?_, ?_, ?_⟩
  · intro p hp
    obtain ⟨x, hx, h⟩ := List.mem_flatMap.mp hp
    obtain ⟨y, hy, rfl⟩ := List.mem_map.mp h
    exact (ha.nd x hx).mul (hb.nd y hy)
  · intro p hp
    obtain ⟨x, hx, h⟩ := List.mem_flatMap.mp hp
    obtain ⟨y, hy, rfl⟩ := List.mem_map.mp h
    have := ha.lo x hx; have := hb.lo y hy
    show 0 ≤ x.1 + y.1
    omega
  · intro p hp
    obtain ⟨x, hx, h⟩ := List.mem_flatMap.mp hp
    obtain ⟨y, hy, rfl⟩ := List.mem_map.mp h
    have := ha.hi x hx; have := hb.hi y hy
    show x.1 + y.1 ≤ _
    omega
  · have e : (Q7.prod a b).length = a.length * b.length := by
      unfold Q7.prod
      rw [List.length_flatMap]
      simp [List.map_const']
    rw [e]
    exact Nat.mul_le_mul ha.len hb.len
theorem ND.wt {D M : Nat} (hD : 0 < D) (t : Int) : ∀ {ps : Rw}, (∀ p ∈ ps, ND D M p.2) → ND D (ps.length * M) (wt (at_ t) ps)
  | [], _ => by simpa [Q7.wt] using ND.zero D
  | (u, q) :: r, h => by
    have ih := ND.wt hD t (ps := r) fun p hp => h p (List.mem_cons_of_mem _ hp)
    have h1 := h (u, q) List.mem_cons_self
    rw [List.length_cons, Nat.succ_mul, Nat.add_comm]
    show ND D (M + r.length * M) (q * at_ t u + Q7.wt (at_ t) r)
    refine ND.add hD ?_ ih
    unfold at_
    by_cases e : u = t
    · rw [if_pos e, Rat.mul_one]; exact h1
    · rw [if_neg e, Rat.mul_zero]; exact ND.zeroM D M
theorem Nf.wt_mem : ∀ {a : Rw}, Nf a → ∀ p ∈ a, wt (at_ p.1) a = p.2
  | (t, q) :: r, h, p, hp => by
    rcases List.mem_cons.mp hp with rfl | hp
    · exact wt_at_head fun x hx => by have := h.head x hx; show x.1 ≠ t; simp only at this; omega
    · have e := Nf.wt_mem h.tail p hp
      have l := h.head p hp
      show q * at_ p.1 t + wt (at_ p.1) r = _
      unfold at_ at *
      rw [if_neg (by simp only at l; omega), Rat.mul_zero, Rat.zero_add]
      exact e
theorem len_range : ∀ {l : List Int} {lo hi : Int}, l.Pairwise (· < ·) → (∀ x ∈ l, lo ≤ x ∧ x ≤ hi) → lo ≤ hi + 1 → (l.length : Int) ≤ hi + 1 - lo
  | [], lo, hi, _, _, h => by simp only [List.length_nil]; omega
  | x :: r, lo, hi, hp, hb, h => by
    have h1 := hb x List.mem_cons_self
    have h2 := List.pairwise_cons.mp hp
    have := len_range (l := r) (lo := x + 1) (hi := hi) h2.2 (fun y hy => ⟨by have := h2.1 y hy; omega, (hb y (List.mem_cons_of_mem _ hy)).2⟩) (by omega)
    rw [List.length_cons]
    omega
theorem look_mem : ∀ {m : Rw} {t : Int}, (∀ p ∈ m, p.1 ≠ t) → look m t = 0
  | [], _, _ => rfl
  | (u, x) :: r, t, h => by
    unfold look
    rw [if_neg (h (u, x) List.mem_cons_self)]
    exact look_mem fun p hp => h p (List.mem_cons_of_mem _ hp)
theorem look_wt : ∀ {m : Rw}, (m.map (·.1)).Nodup → ∀ t, look m t = wt (at_ t) m
  | [], _, t => rfl
  | (u, x) :: r, h, t => by
    have h1 := List.nodup_cons.mp h
    unfold look
    by_cases e : u = t
    · subst e
      rw [if_pos rfl]
      exact (wt_at_head fun p hp e => h1.1 (List.mem_map.mpr ⟨p, hp, e⟩)).symm
    · rw [if_neg e, look_wt h1.2 t]
      show _ = x * at_ t u + _
      unfold at_
      rw [if_neg e, Rat.mul_zero, Rat.zero_add]
theorem look_sums (ps : Rw) (t : Int) : look (sums ps) t = wt (at_ t) ps := by rw [look_wt (sums_nodup ps), wt_sums]
theorem sums_keys_go : ∀ (ps m : Rw) (k : Int), k ∈ (ps.foldl (fun m p => putS m p.1 p.2) m).map (·.1) → k ∈ m.map (·.1) ∨ k ∈ ps.map (·.1)
  | [], m, k, h => .inl h
  | (t, q) :: r, m, k, h => by
    rcases sums_keys_go r _ k h with h | h
    · rw [put_keys] at h
      by_cases h2 : t ∈ m.map (·.1)
      · rw [if_pos h2] at h; exact .inl h
      · rw [if_neg h2] at h
        rcases List.mem_append.mp h with h | h
        · exact .inl h
        · rw [List.mem_singleton] at h
          subst h
          exact .inr (by simp)
    · exact .inr (List.mem_cons_of_mem _ h)
theorem sums_keys {ps : Rw} {k : Int} (h : k ∈ (sums ps).map (·.1)) : k ∈ ps.map (·.1) := by
  rcases sums_keys_go ps [] k h with h | h
  · simp at h
  · exact h
theorem put_len (t : Int) (q : Rat) (m : Rw) : (putS m t q).length ≤ m.length + 1 := by
  have := congrArg List.length (put_keys t q m)
  rw [List.length_map] at this
  rw [this]
  split <;> simp
theorem sums_len_go : ∀ (ps m : Rw), (ps.foldl (fun m p => putS m p.1 p.2) m).length ≤ m.length + ps.length
  | [], m => by simp
  | (t, q) :: r, m => by
    have h := sums_len_go r (putS m t q)
    have := put_len t q m
    simp only [List.foldl, List.length_cons]
    omega
theorem sums_len (ps : Rw) : (sums ps).length ≤ ps.length := by
  have := sums_len_go ps []
  simpa [sums] using this
theorem norm_sub (ps : Rw) : ∀ p ∈ norm ps, p.1 ∈ ps.map (·.1) := by
  intro p hp
  unfold norm pick at hp
  obtain ⟨k, hk, rfl⟩ := List.mem_map.mp (List.mem_filter.mp hp).1
  exact sums_keys (List.mem_mergeSort.mp hk)
theorem norm_len (ps : Rw) : (norm ps).length ≤ ps.length := by
  unfold norm pick
  refine Nat.le_trans (List.length_filter_le _ _) ?_
  rw [List.length_map, List.length_mergeSort, List.length_map]
  exact sums_len ps
theorem Gd.norm {D M T L : Nat} {ps : Rw} (hD : 0 < D) (h : Gd D M T L ps) : Gd D (L * M) T L (norm ps) := by
  have key : ∀ p ∈ Q7.norm ps, 0 ≤ p.1 ∧ p.1 ≤ T := fun p hp => by
    obtain ⟨x, hx, e⟩ := List.mem_map.mp (norm_sub ps p hp)
    rw [← e]
    exact ⟨h.lo x hx, h.hi x hx⟩
  refine ⟨fun p hp => ?_, fun p hp => (key p hp).1, fun p hp => (key p hp).2, Nat.le_trans (norm_len ps) h.len⟩
  rw [← (norm_nf ps).wt_mem p hp, wt_norm]
  exact (ND.wt hD _ h.nd).mono (Nat.mul_le_mul h.len (Nat.le_refl _))
/-- as many as ticks, at most -/
theorem Gd.short {D M T L : Nat} {a : Rw} (n : Nf a) (h : Gd D M T L a) : Gd D M T (T + 1) a := by
  refine ⟨h.nd, h.lo, h.hi, ?_⟩
  have := len_range (l := a.map (·.1)) (lo := 0) (hi := T) (List.pairwise_map.mpr n.asc) (fun x hx => by
    obtain ⟨p, hp, rfl⟩ := List.mem_map.mp hx
    exact ⟨h.lo p hp, h.hi p hp⟩) (by omega)
  rw [List.length_map] at this
  omega
theorem Gd.normT {D M T L : Nat} {ps : Rw} (hD : 0 < D) (h : Gd D M T L ps) : Gd D (L * M) T (T + 1) (Q7.norm ps) := (h.norm hD).short (norm_nf ps)
theorem ND.sum {D M : Nat} (hD : 0 < D) : ∀ {qs : List Rat}, (∀ q ∈ qs, ND D M q) → ND D (qs.length * M) qs.sum
  | [], _ => by simpa using ND.zero D
  | q :: r, h => by
    have ih := ND.sum hD (qs := r) fun p hp => h p (List.mem_cons_of_mem _ hp)
    rw [List.length_cons, Nat.succ_mul, Nat.add_comm, List.sum_cons]
    exact ND.add hD (h q List.mem_cons_self) ih
/-- within the bounds of one row -/
def Gq (ps : Rw) : Prop := ∃ D M T, Gd D M T 63 ps ∧ 0 < D ∧ D < 2 ^ 2900 ∧ M < 2 ^ 2900
theorem Gq.of {D M T L : Nat} {ps : Rw} (h : Gd D M T L ps) (hD : 0 < D) (h1 : D < 2 ^ 2900) (h2 : M < 2 ^ 2900) (h3 : L ≤ 63) : Gq ps := ⟨D, M, T, h.mono (Nat.le_refl _) (Nat.le_refl _) h3, hD, h1, h2⟩
theorem pow_le' {a b : Nat} (h : a ≤ b) : (2 : Nat) ^ a ≤ 2 ^ b := Nat.pow_le_pow_right (by omega) h
theorem lt_1000 {D : Nat} (h : D < 2 ^ 2900) : D < 2 ^ 3000 := Nat.lt_of_lt_of_le h (pow_le' (by omega))
theorem lt_1006 {M n : Nat} (h : M < 2 ^ 2900) (hn : n ≤ 64) : n * M < 2 ^ 3000 := by
  have h1 : n * M ≤ 2 ^ 6 * M := Nat.mul_le_mul (by omega) (Nat.le_refl _)
  have h2 : 2 ^ 6 * M < 2 ^ 6 * 2 ^ 2900 := Nat.mul_lt_mul_of_pos_left h (by omega)
  rw [← Nat.pow_add] at h2
  have h3 := pow_le' (show 6 + 2900 ≤ 3000 by omega)
  omega
theorem Gq.mem {ps : Rw} (h : Gq ps) : ∀ p ∈ ps, B 3000 p.2 := fun p hp => by
  obtain ⟨D, M, T, g, hD, h1, h2⟩ := h
  exact (g.nd p hp).B hD (lt_1000 h1) (Nat.lt_of_lt_of_le h2 (pow_le' (by omega)))
theorem Gq.lo {ps : Rw} (h : Gq ps) : ∀ p ∈ ps, 0 ≤ p.1 := fun p hp => by
  obtain ⟨D, M, T, g, _⟩ := h
  exact g.lo p hp
theorem Gq.len {ps : Rw} (h : Gq ps) : ps.length ≤ 63 := by
  obtain ⟨D, M, T, g, _⟩ := h
  exact g.len
theorem Gq.sub {a b : Rw} (h : Gq b) (s : a.Sublist b) : Gq a := by
  obtain ⟨D, M, T, g, r⟩ := h
  exact ⟨D, M, T, g.sub s, r⟩
theorem Gq.look {ps : Rw} (h : Gq ps) (i : Nat) (t : Int) : B 3000 (look (sums (ps.take i)) t) := by
  obtain ⟨D, M, T, g, hD, h1, h2⟩ := h
  rw [look_sums]
  refine (ND.wt hD t (ps := ps.take i) (M := M) fun p hp => g.nd p (List.mem_of_mem_take hp)).B hD (lt_1000 h1) (lt_1006 h2 ?_)
  rw [List.length_take]
  have := g.len
  omega
theorem Gq.look' {ps : Rw} (h : Gq ps) (t : Int) : B 3000 (Q7.look (sums ps) t) := by
  have := h.look ps.length t
  rwa [List.take_length] at this
theorem Gq.psum {ps : Rw} (h : Gq ps) (i : Nat) : B 3000 ((ps.map (·.2)).take i).sum := by
  obtain ⟨D, M, T, g, hD, h1, h2⟩ := h
  refine (ND.sum hD (qs := (ps.map (·.2)).take i) (M := M) fun q hq => ?_).B hD (lt_1000 h1) (lt_1006 h2 ?_)
  · obtain ⟨p, hp, rfl⟩ := List.mem_map.mp (List.mem_of_mem_take hq)
    exact g.nd p hp
  · rw [List.length_take, List.length_map]
    have := g.len
    omega
end Q7
set_option maxRecDepth 100000
set_option maxHeartbeats 4000000
namespace Q7
open PySem PySem.Spec PyProof.Rows L2

/-! ### reading an item of a list, for an augmented store -/
def rGetL (K : PySem.W.Frag) : V → V → Hp → VK → Prop := fun o i H Q => ∃ p xs k v, o = .ref p ∧ i = .int k ∧ SqL K H p xs ∧ 0 ≤ k ∧ xs[k.toNat]? = some v ∧ Q v H
theorem get_list {X : Cx} : PGet X (rGetL X.K) := by
  intro pins s σ H o i ov iv Q I ro ri h
  obtain ⟨p, xs, k, z, rfl, rfl, hs, h0, hx, q⟩ := h
  cases ro
  obtain ⟨t, rfl⟩ := ri
  obtain ⟨its, r, pl, hz⟩ := I.list hs
  obtain ⟨u, eu, ru⟩ := r.get hx
  have hk : k.toNat < xs.length := (List.getElem?_eq_some_iff.mp hx).1
  have hl := line63
  have hsz := sizeLine_eq
  exact wpAny_getItem_list pl.isList h0 (by omega) (by simpa using eu) ⟨z, H, I, ru, q⟩

/-! ### list + list where the operands are only read -/
def rCatS (K : PySem.W.Frag) : R2 := fun x y H Q => ∃ l b xs zs, x = .ref l ∧ y = .ref b ∧ SqL K H l xs ∧ SqL K H b zs ∧ xs.length + zs.length ≤ sizeLine ∧ ∀ p, H p = none → Q (.ref p) (upd H p (.lst (xs ++ zs)))
theorem op_catS {X : Cx} : OpR X (binaryOp .Add) (rCatS X.K) := by
  intro pins s σ H x y v u Q I rx ry h
  obtain ⟨l, b, xs, zs, rfl, rfl, hl, hb, hz, q⟩ := h
  cases rx
  cases ry
  obtain ⟨its, r, pl, _⟩ := I.list hl
  obtain ⟨its2, r2, pl2, _⟩ := I.list hb
  obtain ⟨⟨c1, d1, t1, s1⟩, n1, e1, k1, j1, g1⟩ := pl
  obtain ⟨⟨c2, d2, t2, s2⟩, n2, e2, k2, j2, g2⟩ := pl2
  simp only at k1 j1 g1 k2 j2 g2
  subst k1 g1 k2 g2
  have hl1 := r.length
  have hl2 := r2.length
  have ea : its.toArray ++ its2.toArray = (its ++ its2).toArray := by simp
  refine concat_meets ⟨_, e1, rfl⟩ ⟨_, e2, rfl⟩ noFill_list_add seq_list_add PySem.F.slot_list_add PySem.F.entry_list_add (PySem.F.args_list_add_2 _ _)
    (list_addW l b its.toArray its2.toArray n1 n2 d1 d2 s1 s2 (by simp only [List.size_toArray]; omega)) ⟨e1, e2, ?_⟩
  rw [ea]
  exact ⟨.ref _, _, I.lnew (t' := s.toks) (r.append r2) (by rw [List.length_append]; omega), rfl, q _ I.fresh⟩

/-! ### operators of the program's own class -/
section
variable {X : Cx} {CX : CXT} {n : Nat} {g C : Addr} {fd : FuncData} {ps : List Str} {sp : Sp} {E : XK}
/-- x op y, both instances of the class at C, whose method for op keeps sp -/
def rOwn2 (C : Addr) (sp : Sp) (E : XK) : R2 := fun x y H Q => ∃ a dx fs b dy gs, x = .ref a ∧ y = .ref b ∧ H a = some (.ins C dx fs) ∧ H b = some (.ins C dy gs) ∧ sp [x, y] H Q E
theorem look2 {pins : List (Addr × Obj)} {s : Shared} {σ : L2.St} {H : Hp} {a dx : Addr} {fs : List (Str × V)} (I : Inv X pins σ H s) (h : H a = some (.ins C dx fs)) : ∃ ox od, PySem.W.InstAt s.heap a ox C od := by
  obtain ⟨mA, O, _⟩ := ins_get I.hok h
  obtain ⟨od, J, _⟩ := O.look
  exact ⟨_, _, J⟩
theorem op_own2 {op : Operator} (hc : PySem.W.selfFirst X.K C = true) (hs : PySem.W.findIn X.K (.ref C) (PySem.dunder op.info.2) = some (some (.ref g))) (hf : PySem.W.isFn X.K (.ref g) = true)
    (F : FnOk X.prog X.w X.K X.mg X.base CX n g fd ps sp) (hr : Room n X.A) (hb : Binds X.K fd ps []) (hx : Passes CX X E) : OpR X (binaryOp op) (rOwn2 C sp E) := by
  intro pins s σ H x y v u Q I rx ry h
  obtain ⟨a, dx, fs, b, dy, gs, rfl, rfl, ha, hb', q⟩ := h
  cases rx
  cases ry
  obtain ⟨ox, od, J⟩ := look2 I ha
  obtain ⟨oy, od', J'⟩ := look2 I hb'
  obtain ⟨m, hF⟩ := I.fr
  refine PySem.W.binop_K hF I.ok.mod.kin J J'.type hc hs hf ?_
  refine wpAny_mono (run_fn (us := [.ref a, .ref b]) (vs := [.ref a, .ref b]) F hr hb .nil hx I (.cons rfl (.cons rfl .nil)) q) (fun w s' z => ?_) fun _ _ z => z
  obtain ⟨z', H', I', rz, qz⟩ := z
  exact SlX.cmpback rz ⟨z', H', I', rz, qz⟩
theorem op_ownEq (hs : PySem.W.findIn X.K (.ref C) "__eq__" = some (some (.ref g))) (hf : PySem.W.isFn X.K (.ref g) = true)
    (F : FnOk X.prog X.w X.K X.mg X.base CX n g fd ps sp) (hr : Room n X.A) (hb : Binds X.K fd ps []) (hx : Passes CX X E) : OpR X (compareOp .Eq) (rOwn2 C sp E) := by
  intro pins s σ H x y v u Q I rx ry h
  obtain ⟨a, dx, fs, b, dy, gs, rfl, rfl, ha, hb', q⟩ := h
  cases rx
  cases ry
  obtain ⟨ox, od, J⟩ := look2 I ha
  obtain ⟨oy, od', J'⟩ := look2 I hb'
  obtain ⟨m, hF⟩ := I.fr
  unfold compareOp
  refine PySem.W.cmp_K (op := .Eq) (tb := .ref C) hr.units0 hF I.ok.mod.kin J J'.type (by simp [PySem.W.notFirst]) hs hf ?_
  refine wpAny_mono (run_fn (us := [.ref a, .ref b]) (vs := [.ref a, .ref b]) F hr hb .nil hx I (.cons rfl (.cons rfl .nil)) q) (fun w s' z => ?_) fun _ _ z => z
  obtain ⟨z', H', I', rz, qz⟩ := z
  exact SlX.cmpback rz ⟨z', H', I', rz, qz⟩
/-- x in y, y an instance of the class at C whose __contains__ keeps sp and hands back a bool -/
def rOwnIn (C : Addr) (sp : Sp) (E : XK) : R2 := fun x y H Q => ∃ b dy gs, y = .ref b ∧ H b = some (.ins C dy gs) ∧ sp [y, x] H (fun v H' => ∃ k, v = .bl k ∧ Q (.bl k) H') E
theorem op_ownIn (hs : PySem.W.findIn X.K (.ref C) "__contains__" = some (some (.ref g))) (hf : PySem.W.isFn X.K (.ref g) = true)
    (F : FnOk X.prog X.w X.K X.mg X.base CX n g fd ps sp) (hr : Room n X.A) (hb : Binds X.K fd ps []) (hx : Passes CX X E) : OpR X (compareOp .In) (rOwnIn C sp E) := by
  intro pins s σ H x y v u Q I rx ry h
  obtain ⟨b, dy, gs, rfl, hb', q⟩ := h
  cases ry
  obtain ⟨ox, od, J⟩ := look2 I hb'
  obtain ⟨m, hF⟩ := I.fr
  refine PySem.W.in_K hF I.ok.mod.kin J hs hf ?_
  refine wpAny_mono (run_fn (us := [.ref b, v]) (vs := [.ref b, x]) F hr hb .nil hx I (.cons rfl (.cons rx .nil)) q) (fun w s' z => ?_) fun _ _ z => z
  obtain ⟨z', H', I', rz, k, rfl, qz⟩ := z
  cases rz
  exact wpAny_truthy_bool ⟨.bl k, H', I', rfl, qz⟩
/-- len(x), x an instance of the class at C whose __len__ keeps sp -/
def rOwnLen (C : Addr) (sp : Sp) (E : XK) : List V → Hp → VK → Prop := fun xs H Q => ∃ a dx fs, xs = [.ref a] ∧ H a = some (.ins C dx fs) ∧ sp [.ref a] H (fun v H' => ∃ k : Int, v = .int k ∧ 0 ≤ k ∧ k < 2 ^ 63 ∧ Q (.int k) H') E
theorem Env0.in1' {P : Program} {w : World} {K : PySem.W.Frag} {mg : Str → Option Value} {base : Heap} {A : Around} {outer : List Env} {s : Shared} {H : Hp} (e : Env0 P w K mg base A outer s H) : Env0 P w K mg base A.in1 outer s H := e.in1
theorem call_ownLen (hs : PySem.W.findIn X.K (.ref C) "__len__" = some (some (.ref g))) (hf : PySem.W.isFn X.K (.ref g) = true)
    (F : FnOk X.prog X.w X.K X.mg X.base CX n g fd ps sp) (hr : Room (n + 1) X.A) (hb : Binds X.K fd ps []) (hx : ∀ H s e s', CX X.stack H s E e s' → False) : CallR X (.builtin "len") (rOwnLen C sp E) := by
  intro pins s σ H xs us Q I r h
  obtain ⟨a, dx, fs, rfl, ha, q⟩ := h
  obtain ⟨u, rfl, rx⟩ := vals1 r
  cases rx
  obtain ⟨ox, od, J⟩ := look2 I ha
  obtain ⟨m, hF⟩ := I.fr
  refine PySem.W.len_K hF I.ok.mod.kin J hs hf ?_
  have hl := F.len _ _ _ _ q
  have r2 : Vals [V.ref a] [Value.ref a] := .cons rfl .nil
  refine wpAny_call (codeAny_mono (F.run X.A.in1 X.stack s H ⟨[.ref a], []⟩ [.ref a] [.ref a] _ E hr.in1 I.env0.in1 (by
    have := hb s [.ref a] I.kIn (by simpa using hl)
    simpa using this) r2 q) fun r s' hq => ?_)
  cases r with
  | error e => exact (hx _ _ _ _ hq).elim
  | ok fl =>
    cases fl with
    | ret w =>
      obtain ⟨z, H', I', rz, k, rfl, h0, h1, qz⟩ := I.after hq
      obtain ⟨t, rfl⟩ := rz
      exact ⟨⟨h0, h1⟩, .int k, H', I'.tok _, ⟨_, rfl⟩, qz⟩
    | next => exact False.elim hq
    | brk => exact False.elim hq
    | cont => exact False.elim hq
end

/-! ### != by an own __eq__ (no __ne__ of the class's own) -/
structure NeTxt (K : PySem.W.Frag) (C g : Addr) : Prop where
  cls : ∃ nm q N bs sn sub ab col dd k0 k1 k2 k3 k5 nid, K.lookup C = some (excClassObj nm q C N bs [.type "object"] true sn sub ab col dd k0 k1 k2 k3 k5 nid) ∧
    PySem.W.nsOkIn K N = true ∧ PySem.W.nsIn K N "__eq__" = some (some (.ref g)) ∧ PySem.W.nsIn K N "__ne__" = some none
  fn : ∃ of, K.lookup g = some of ∧ of.cls = .type "function"
theorem ns_some_of {K : PySem.W.Frag} {h : Heap} {N : Addr} {mg : Str → Option Value} {n : Str} {v : Value} (X : K.In h) (G : h.Ns N mg) (e : PySem.W.nsIn K N n = some (some v)) : mg n = some v := by
  obtain ⟨o, es, ep, ho, hd, _, hf⟩ := G
  unfold PySem.W.nsIn at e
  split at e
  · rename_i c d es' n' sl q
    have z := X _ _ q
    rw [ho] at z
    cases z
    cases hd
    split at e
    · rename_i en he
      have ev : en.val = v := Option.some.inj (Option.some.inj e)
      rw [← hf, ← ev]
      unfold nsFind findBy
      rw [← Array.find?_toList, he]
      rfl
    · split at e <;> cases e
  · cases e
section
variable {X : Cx} {CX : CXT} {n : Nat} {g C : Addr} {fd : FuncData} {ps : List Str} {sp : Sp} {E : XK}
theorem look3 {pins : List (Addr × Obj)} {s : Shared} {σ : L2.St} {H : Hp} {a dx : Addr} {fs : List (Str × V)} (I : Inv X pins σ H s) (h : H a = some (.ins C dx fs)) : ∃ o, s.heap.get? a = some o ∧ o.cls = .ref C := by
  obtain ⟨mA, O, _⟩ := ins_get I.hok h
  exact ⟨_, O.obj, rfl⟩
def rOwnNe (C : Addr) (sp : Sp) (E : XK) : R2 := fun x y H Q => ∃ a dx fs b dy gs, x = .ref a ∧ y = .ref b ∧ H a = some (.ins C dx fs) ∧ H b = some (.ins C dy gs) ∧ sp [x, y] H (fun v H' => ∃ k, v = .bl k ∧ Q (.bl (!k)) H') E
theorem op_ownNe (T : NeTxt X.K C g) (F : FnOk X.prog X.w X.K X.mg X.base CX n g fd ps sp) (hr : Room (n + 1) X.A) (hb : Binds X.K fd ps []) (hx : ∀ H s e s', CX X.stack H s E e s' → False) : OpR X (compareOp .NotEq) (rOwnNe C sp E) := by
  intro pins s σ H x y v u Q I rx ry h
  obtain ⟨a, dx, fs, b, dy, gs, rfl, rfl, ha, hb', q⟩ := h
  cases rx
  cases ry
  obtain ⟨nm, qn, N, bs, sn, sub, ab, col, dd, k0, k1, k2, k3, k5, nid, hC, hN, hE, hNe⟩ := T.cls
  obtain ⟨of, hof, hoc⟩ := T.fn
  obtain ⟨oa, ea, ca⟩ := look3 I ha
  obtain ⟨ob, eb, cb⟩ := look3 I hb'
  have KX := I.kIn
  have G : s.heap.Ns N (s.heap.nsMap N) := .of_isNs (PySem.W.isNs_of_in KX hN)
  have OX : s.heap.OwnEqNoNe a C g "object" [.type "object"] := ⟨oa, of, nm, qn, N, bs, true, sn, sub, ab, col, dd, k0, k1, k2, k3, k5, nid, s.heap.nsMap N, _, ea, ca, KX _ _ hC, G, ns_some_of KX G hE, KX _ _ hof, hoc, PySem.F.cmp_object.mro, PySem.F.cmp_object.eq.lookup, PySem.W.nsMap_none_of_in KX hN hNe⟩
  have hl := F.len _ _ _ _ q
  have r2 : Vals [V.ref a, V.ref b] [Value.ref a, Value.ref b] := .cons rfl (.cons rfl .nil)
  have key : ∀ (s0 : Shared), s0 = s → wpAny (model X.prog X.w) X.A (compareOp .NotEq (.ref a) (.ref b)) (EP X pins σ Q) X.xe ⟨s0.heap, s0.gens, s0.drawn, s0.toks, s0.os⟩ := by
    rintro s0 rfl
    refine compareOp_ne_ownEq PySem.F.cmp_object OX eb cb (by have := hr.un; omega) ?_
    refine wpAny_call (codeAny_mono (F.run X.A.in1 X.stack s0 H ⟨[.ref a, .ref b], []⟩ [.ref a, .ref b] [.ref a, .ref b] _ E hr.in1 I.env0.in1 (by
      have := hb s0 [.ref a, .ref b] I.kIn (by simpa using hl)
      simpa using this) r2 q) fun r s' hq => ?_)
    cases r with
    | error e => exact (hx _ _ _ _ hq).elim
    | ok fl =>
      cases fl with
      | ret w =>
        obtain ⟨z, H', I', rz, k, rfl, qz⟩ := I.after hq
        cases rz
        exact ⟨k, rfl, .bl (!k), H', I', rfl, qz⟩
      | next => exact False.elim hq
      | brk => exact False.elim hq
      | cont => exact False.elim hq
  exact key s rfl
end
/-
  refine wpAny_mono (run_fn (us := [.ref a, .ref b]) (vs := [.ref a, .ref b]) F hr hb .nil hx I (.cons rfl (.cons rfl .nil)) q) (fun w s' z => ?_) fun _ _ z => z
  obtain ⟨z', H', I', rz, k, rfl, qz⟩ := z
  cases rz
-/

end Q7
set_option maxRecDepth 100000
set_option maxHeartbeats 4000000
namespace Q7
open PySem PySem.Spec PyProof.Rows L2
abbrev St7 := L2.St
/-! ### what stays: every tracked thing; every tuple -/
theorem same_new {H : Hp} {p : Addr} {o : HO} (h : H p = none) : Same H (upd H p o) := fun b u e => by
  rw [upd_ne (ne_of_none e h)]
  exact e
theorem same_newer {H H' : Hp} {p : Addr} {o : HO} (s : Same H H') (h : H' p = none) : Same H (upd H' p o) := s.trans (same_new h)
/-- an object that H does not know may change -/
theorem same_mut {H H' : Hp} {p : Addr} {o : HO} (s : Same H H') (h : H p = none) : Same H (upd H' p o) := fun b u e => by
  rw [upd_ne (ne_of_none e h)]
  exact s b u e
def TK (H H' : Hp) : Prop := ∀ a xs, Rd H a (.tup xs) → Rd H' a (.tup xs)
theorem TK.refl (H : Hp) : TK H H := fun _ _ h => h
theorem TK.trans {H H1 H2 : Hp} (a : TK H H1) (b : TK H1 H2) : TK H H2 := fun x o h => b x o (a x o h)
theorem same_tk {H H' : Hp} (s : Same H H') : TK H H' := fun a xs h => h.elim (fun h => .inl (s _ _ h)) fun ⟨o, h⟩ => .inr ⟨o, s _ _ h⟩
theorem tk_upd {H : Hp} {p : Addr} {o u : HO} (h : H p = some u) (hu : ∀ xs, u ≠ .tup xs) (hf : ∀ o xs, u ≠ .frz o (.tup xs)) : TK H (upd H p o) := fun a xs q => by
  rcases q with q | ⟨z, q⟩
  · exact .inl (by rw [upd_ne (ne_of q h fun e => hu xs e.symm)]; exact q)
  · exact .inr ⟨z, by rw [upd_ne (ne_of q h fun e => hf z xs e.symm)]; exact q⟩
theorem tk_lst {H : Hp} {p : Addr} {o : HO} {ys : List V} (h : H p = some (.lst ys)) : TK H (L2.upd H p o) := tk_upd h (fun _ e => by cases e) fun _ _ e => by cases e
theorem tk_dk {H : Hp} {p : Addr} {o : HO} {ys : List (Key × V)} (h : H p = some (.dK ys)) : TK H (L2.upd H p o) := tk_upd h (fun _ e => by cases e) fun _ _ e => by cases e
theorem tk_ins {H : Hp} {p C dx : Addr} {o : HO} {ys : List (Str × V)} (h : H p = some (.ins C dx ys)) : TK H (L2.upd H p o) := tk_upd h (fun _ e => by cases e) fun _ _ e => by cases e
section
variable {K : PySem.W.Frag} {H H' : Hp} {v : V} {q : Rat} {a : Addr} {xs : List V}
theorem sqT_tk (h : SqT K H a xs) (t : TK H H') : SqT K H' a xs := h.elim (fun h => .inl (t _ _ h)) .inr
theorem sqT_of (h : H a = some (.tup xs)) : SqT K H a xs := .inl (.inl h)
theorem sqL_of (h : H a = some (.lst xs)) : SqL K H a xs := .inl (.inl h)
/-! ### a fraction, a pair, a list of pairs -/
def FrV (K : PySem.W.Frag) (H : Hp) (v : V) (q : Rat) : Prop := ∃ p, v = .ref p ∧ SqT K H p [.int q.num, .int q.den]
def PrV (K : PySem.W.Frag) (H : Hp) (v : V) (t : Int × Rat) : Prop := ∃ p x, v = .ref p ∧ SqT K H p [.int t.1, x] ∧ FrV K H x t.2
abbrev PrsV (K : PySem.W.Frag) (H : Hp) : List V → Rw → Prop := Paired (PrV K H)
theorem frV_tk (h : FrV K H v q) (t : TK H H') : FrV K H' v q := by
  obtain ⟨p, e, s⟩ := h
  exact ⟨p, e, sqT_tk s t⟩
theorem prV_tk {x : Int × Rat} (h : PrV K H v x) (t : TK H H') : PrV K H' v x := by
  obtain ⟨p, y, e, s, f⟩ := h
  exact ⟨p, y, e, sqT_tk s t, frV_tk f t⟩
theorem prsV_tk : ∀ {xs : List V} {ps : Rw}, PrsV K H xs ps → TK H H' → PrsV K H' xs ps
  | _, _, .nil, _ => .nil
  | _, _, .cons h r, t => .cons (prV_tk h t) (prsV_tk r t)
def fr (q : Rat) : PyData := .tuple [.int q.num, .int q.den]
def pr (p : Int × Rat) : PyData := .tuple [.int p.1, fr p.2]
theorem frV_dp (h : FrV K H v q) : Dp K H v (fr q) := by
  obtain ⟨p, rfl, s⟩ := h
  exact .tup s (.cons (.int _) (.cons (.int _) .nil))
theorem prV_dp {x : Int × Rat} (h : PrV K H v x) : Dp K H v (pr x) := by
  obtain ⟨p, y, rfl, s, f⟩ := h
  exact .tup s (.cons (.int _) (.cons (frV_dp f) .nil))
theorem prsV_dp : ∀ {xs : List V} {ps : Rw}, PrsV K H xs ps → DpAll K H xs (ps.map pr)
  | _, _, .nil => .nil
  | _, _, .cons h r => .cons (prV_dp h) (prsV_dp r)
theorem pLen {α β : Type} {R : α → β → Prop} : ∀ {xs : List α} {ys : List β}, Paired R xs ys → xs.length = ys.length
  | _, _, .nil => rfl
  | _, _, .cons _ r => congrArg (· + 1) (pLen r)
theorem pGet {α β : Type} {R : α → β → Prop} : ∀ {xs : List α} {ys : List β}, Paired R xs ys → ∀ {i : Nat} {x : α}, xs[i]? = some x → ∃ y, ys[i]? = some y ∧ R x y
  | _, _, .nil, i, x, h => by simp at h
  | _, _, .cons r t, 0, x, h => by simp at h; subst h; exact ⟨_, rfl, r⟩
  | _, _, .cons r t, i + 1, x, h => by
    obtain ⟨y, h1, h2⟩ := pGet t (i := i) (x := x) (by simpa using h)
    exact ⟨y, by simpa using h1, h2⟩
theorem pApp {α β : Type} {R : α → β → Prop} : ∀ {xs xs' : List α} {ys ys' : List β}, Paired R xs ys → Paired R xs' ys' → Paired R (xs ++ xs') (ys ++ ys')
  | _, _, _, _, .nil, h => h
  | _, _, _, _, .cons r t, h => .cons r (pApp t h)
theorem pImp {α β : Type} {R S : α → β → Prop} (f : ∀ a b, R a b → S a b) : ∀ {xs : List α} {ys : List β}, Paired R xs ys → Paired S xs ys
  | _, _, .nil => .nil
  | _, _, .cons r t => .cons (f _ _ r) (pImp f t)
theorem pRev {α β : Type} {R : α → β → Prop} {xs : List α} {ys : List β} (h : Paired R xs ys) : Paired R xs.reverse ys.reverse := by
  induction h with
  | nil => exact .nil
  | cons r _ ih => rw [List.reverse_cons, List.reverse_cons]; exact pApp ih (.cons r .nil)
end
/-! ### == of this data -/
theorem eqv_fr (p q : Rat) : PyData.eqv (fr p) (fr q) = decide (p = q) := by
  simp only [fr, PyData.eqv, PyData.eqvAll, Bool.and_true]
  by_cases h : p = q
  · subst h; simp
  · rw [decide_eq_false h]
    by_cases h1 : p.num = q.num
    · have h2 : p.den ≠ q.den := fun e => h (Rat.ext h1 e)
      have : ((p.den : Int) == (q.den : Int)) = false := by simp; omega
      rw [this, Bool.and_false]
    · have : (p.num == q.num) = false := by simp [h1]
      rw [this, Bool.false_and]
theorem eqv_pr (p q : Int × Rat) : PyData.eqv (pr p) (pr q) = decide (p = q) := by
  have e : PyData.eqv (pr p) (pr q) = ((p.1 == q.1) && PyData.eqv (fr p.2) (fr q.2)) := by
    simp only [pr, PyData.eqv, PyData.eqvAll, Bool.and_true]
  rw [e, eqv_fr]
  obtain ⟨a, b⟩ := p
  obtain ⟨c, d⟩ := q
  by_cases h1 : a = c
  · subst h1; simp [Prod.ext_iff]
  · simp [Prod.ext_iff, h1]
theorem eqv_prs : ∀ a b : Rw, PyData.eqvAll (a.map pr) (b.map pr) = decide (a = b)
  | [], [] => by simp [PyData.eqvAll]
  | [], _ :: _ => by simp [PyData.eqvAll]
  | _ :: _, [] => by simp [PyData.eqvAll]
  | p :: a, q :: b => by
    simp only [List.map_cons, PyData.eqvAll, eqv_pr, eqv_prs a b]
    by_cases h1 : p = q
    · by_cases h2 : a = b
      · subst h1 h2; simp
      · simp [h1, h2]
    · simp [h1]
theorem lay_fr (q : Rat) : (fr q).canLay0 = true := by simp [fr, PyData.canLay0, PyData.canLayAll0]
theorem dep_fr (q : Rat) : (fr q).depth = 1 := by simp [fr, PyData.depth, PyData.depthAll]
theorem sh_fr (q : Rat) : SeqAt.shaped (fr q) = true := by
  show ((fr q).canLay0 && decide ((fr q).depth ≤ 64)) = true
  rw [lay_fr, dep_fr]; decide
theorem lay_pr (q : Int × Rat) : (pr q).canLay0 = true := by simp [pr, PyData.canLay0, PyData.canLayAll0, lay_fr]
theorem dep_pr (q : Int × Rat) : (pr q).depth = 2 := by simp [pr, PyData.depth, PyData.depthAll, dep_fr]
theorem lay_prs : ∀ a : Rw, PyData.canLayAll0 (a.map pr) = true
  | [] => by simp [PyData.canLayAll0]
  | p :: a => by simp [PyData.canLayAll0, lay_pr p, lay_prs a]
theorem dep_prs : ∀ a : Rw, PyData.depthAll (a.map pr) ≤ 2
  | [] => by simp [PyData.depthAll]
  | p :: a => by
    have := dep_prs a
    have := dep_pr p
    simp only [List.map_cons, PyData.depthAll]
    omega
theorem sh_prs (a : Rw) : SeqAt.shaped (.list (a.map pr)) = true := by
  have h := dep_prs a
  have h2 : PyData.depth (.list (a.map pr)) ≤ 64 := by simp only [PyData.depth]; omega
  show (PyData.canLay0 (.list (a.map pr)) && decide (PyData.depth (.list (a.map pr)) ≤ 64)) = true
  rw [Bool.and_eq_true]
  exact ⟨by simp only [PyData.canLay0]; exact lay_prs a, decide_eq_true h2⟩
theorem eqv_lists (a b : Rw) : PyData.eqv (.list (a.map pr)) (.list (b.map pr)) = decide (a = b) := by simp only [PyData.eqv]; exact eqv_prs a b
theorem sh_ints (ns : List Int) : SeqAt.shaped (.list (ns.map PyData.int)) = true := PySem.W.shaped_ints ns

/-! ### // by any divisor but 0 -/
def CDivA (_ j : Int) : Prop := j ≠ 0 ∧ j.natAbs.log2 < 9000
theorem op_fdivA {X : Cx} : OpR X (binaryOp .FloorDiv) (rI CDivA fun i j => .int (i.fdiv j)) := opI fun i j _ _ _ _ _ hc q => floordiv_int hc.1 q (.inl (PyProof.noPylong_of_log2 hc.2))
theorem cdiv_of {i j : Int} {b : Nat} (h0 : j ≠ 0) (h : j.natAbs < 2 ^ b) (hb : 0 < b) (h9 : b ≤ 9000) : CDivA i j := ⟨h0, Nat.lt_of_lt_of_le (PySem.Flt.log2_lt_of hb h) h9⟩
theorem cmul_of {i j : Int} {a b : Nat} (ha : i.natAbs < 2 ^ a) (hb : j.natAbs < 2 ^ b) (h : a + b ≤ 900000) : CMulW i j := by
  refine wide_mul (a := a + 1) (b := b + 1) (Nat.lt_of_lt_of_le ha (Nat.pow_le_pow_right (by omega) (by omega))) (Nat.lt_of_lt_of_le hb (Nat.pow_le_pow_right (by omega) (by omega))) (by omega) (by omega) (by omega)

/-! ### == of two dicts whose values are data -/
def KvD (K : PySem.W.Frag) (H : Hp) : List (Key × V) → List (Key × PyData) → Prop := Paired fun p q => p.1 = q.1 ∧ Dp K H p.2 q.2 ∧ SeqAt.shaped q.2 = true
def findD (es : List (Key × PyData)) (k : Key) : Option PyData := (es.find? fun q => decide (q.1 = k)).map (·.2)
def eqKv (ds es : List (Key × PyData)) : Bool := ds.length == es.length && ds.all fun p => match findD es p.1 with | some e => PyData.eqv p.2 e | none => false
section
variable {X : Cx} {pins : List (Addr × Obj)} {σ : St7} {H : Hp} {s : Shared}
theorem find_kv (I : Inv X pins σ H s) (k : Key) : ∀ {ls : List (Key × V)} {es : List (Key × PyData)} {vb : List (Key × Value)}, KvD X.K H ls es → KV ls vb →
    (findD es k = none ∧ PySem.valueAt vb k = none) ∨ ∃ e y as, findD es k = some e ∧ PySem.valueAt vb k = some y ∧ Reads s.heap y e as ∧ SeqAt.shaped e = true
  | [], _, _, h, r => by
    cases h
    cases r
    exact .inl ⟨rfl, rfl⟩
  | p :: ls, _, _, h, r => by
    cases h with
    | @cons _ q _ es h1 h2 =>
      cases r with
      | @cons _ w _ vb r1 r2 =>
        obtain ⟨e1, d1, s1⟩ := h1
        obtain ⟨c1, c2⟩ := r1
        by_cases hk : p.1 = k
        · obtain ⟨as, rd⟩ := Dp.reads I q.2 p.2 w.2 d1 c2
          refine .inr ⟨q.2, w.2, as, ?_, ?_, rd, s1⟩
          · unfold findD
            rw [List.find?_cons_of_pos (by rw [← e1]; exact decide_eq_true hk)]
            rfl
          · unfold PySem.valueAt
            rw [List.find?_cons_of_pos (by rw [← c1]; exact decide_eq_true hk)]
            rfl
        · rcases find_kv I k h2 r2 with ⟨a, b⟩ | ⟨e, y, as, a, b, c, d⟩
          · refine .inl ⟨?_, ?_⟩
            · unfold findD
              rw [List.find?_cons_of_neg (by rw [← e1]; simpa using hk)]
              exact a
            · unfold PySem.valueAt
              rw [List.find?_cons_of_neg (by rw [← c1]; simpa using hk)]
              exact b
          · refine .inr ⟨e, y, as, ?_, ?_, c, d⟩
            · unfold findD
              rw [List.find?_cons_of_neg (by rw [← e1]; simpa using hk)]
              exact a
            · unfold PySem.valueAt
              rw [List.find?_cons_of_neg (by rw [← c1]; simpa using hk)]
              exact b
theorem hits_kv (I : Inv X pins σ H s) {A : Around} (hu : A.units + 64 < cLine) {ls : List (Key × V)} {es : List (Key × PyData)} {vb : List (Key × Value)} (hl : KvD X.K H ls es) (rb : KV ls vb) :
    ∀ {ks : List (Key × V)} {ds : List (Key × PyData)} {va : List (Key × Value)}, KvD X.K H ks ds → KV ks va →
      PySem.W.KeqHitsP X.prog X.w A s vb va (ds.all fun p => match findD es p.1 with | some e => PyData.eqv p.2 e | none => false)
  | [], _, _, h, r => by
    cases h
    cases r
    exact .nil
  | p :: ks, _, _, h, r => by
    cases h with
    | @cons _ q _ ds h1 h2 =>
      cases r with
      | @cons _ w _ va r1 r2 =>
        obtain ⟨e1, d1, s1⟩ := h1
        obtain ⟨c1, c2⟩ := r1
        obtain ⟨k, z⟩ := w
        simp only at c1 c2
        subst c1
        rw [List.all_cons, ← e1]
        rcases find_kv I p.1 hl rb with ⟨a, b⟩ | ⟨e, y, bs, a, b, c, d⟩
        · rw [a]
          exact .miss b
        · rw [a]
          obtain ⟨as, rd⟩ := Dp.reads I q.2 p.2 z d1 c2
          exact .hit b (SeqAt.eqAt_reads q.2 e A s z y as bs rd c (SeqAt.canLay_of_shaped s1) (SeqAt.canLay_of_shaped d) (SeqAt.room_of_shaped s1 hu)).eqP (hits_kv I hu hl rb h2 r2)
def rEqDd (K : PySem.W.Frag) : R2 := fun x y H Q => ∃ a b ks ls ds es, x = .ref a ∧ y = .ref b ∧ H a = some (.dK ks) ∧ H b = some (.dK ls) ∧ KvD K H ks ds ∧ KvD K H ls es ∧ Q (.bl (eqKv ds es)) H
end
theorem op_eqDd {X : Cx} (hu : X.A.units + 70 < cLine) : OpR X (compareOp .Eq) (rEqDd X.K) := by
  intro pins s σ H x y v u Q I rx ry h
  obtain ⟨a, b, ks, ls, ds, es, rfl, rfl, ha, hb, hk, hl, q⟩ := h
  cases rx
  cases ry
  obtain ⟨_, ya, va, ra, da⟩ := (show ObjOk X.prog X.w H s.heap a (.dK ks) from I.hok a _ ha)
  obtain ⟨_, yb, vb, rb, db⟩ := (show ObjOk X.prog X.w H s.heap b (.dK ls) from I.hok b _ hb)
  unfold compareOp
  refine PySem.W.rcP_dicts (knd := mixKind X.prog X.w) ya yb da db (by omega) (fun _ => hits_kv I (by show X.A.units + 1 + 64 < cLine; omega) hl rb hk ra) _ _ ?_
  have l1 : va.length = ds.length := by rw [← ra.length, Paired.length hk]
  have l2 : vb.length = es.length := by rw [← rb.length, Paired.length hl]
  rw [l1, l2]
  exact ⟨.bl _, H, I, rfl, q⟩
end Q7
set_option maxRecDepth 100000
set_option maxHeartbeats 4000000
namespace Q7
open PySem PySem.Spec PyProof.Rows L2
/-! ### a head's facts, and tests of one's own beside them -/
abbrev Tst : Type := PySem.W.Frag → Bool
def hookX (n : Nat) (fa : List He.Fa) (fn : List He.DefD) (ex : List Tst) : PySem.W.Hook where
  α := He.AlD × Bool
  obs := fun s => (He.obsD fa fn (He.frG s.heap.get? (He.asD s.heap.get? n)), ex.all fun f => f (He.frG s.heap.get? (He.asD s.heap.get? n)))
  val := fun _ => (He.valD fn, true)
  says := fun _ h => ∃ K : PySem.W.Frag, K.In h ∧ He.SaysD fa fn K ∧ (ex.all fun f => f K) = true
  of := fun _ _ e => ⟨_, He.frG_in, congrArg (fun z : He.AlD × Bool => z.1) e, congrArg (fun z : He.AlD × Bool => z.2) e⟩
  keeps := fun _ _ _ ⟨K, hK, c⟩ k => ⟨K, PySem.W.Frag.In.keeps hK k, c⟩
def obX (n : Nat) (fa : List He.Fa) (fn : List He.DefD) (ex : List Tst) (g : Addr → Option Obj) : He.AlD × Bool := (He.obsD fa fn (He.frG g (He.asD g n)), ex.all fun f => f (He.frG g (He.asD g n)))
theorem obX_eq {n : Nat} {fa : List He.Fa} {fn : List He.DefD} {ex : List Tst} {g : Addr → Option Obj} {s : Shared} (h : ∀ a, g a = s.heap.get? a) : obX n fa fn ex g = (hookX n fa fn ex).obs s := by
  have e : g = s.heap.get? := funext h
  rw [e] <;> rfl
theorem tst_at {ex : List Tst} {K : PySem.W.Frag} (h : (ex.all fun f => f K) = true) (i : Nat) {f : Tst} (e : ex[i]? = some f := by rfl) : f K = true := List.all_eq_true.mp h f (List.mem_of_getElem? e)
/-! ### such tests -/
def tFind (x : Str) (m : Str) (v : Value) : Tst := fun K => He.eqO (PySem.W.findIn K (.ref (He.ga K x)) m) (some (some v))
def tGlo (x : Str) (v : Value) : Tst := fun K => He.eqO (PySem.W.nsIn K mainGlobals x) (some (some v))
theorem tGlo_ok {x : Str} {v : Value} {K : PySem.W.Frag} {h : Heap} {mg : Str → Option Value} (X : K.In h) (G : h.Ns mainGlobals mg) (c : tGlo x v K = true) : mg x = some v := PySem.W.mg_of X G (He.eqO_ok c)
def tKit (a b : String) (r : Bool) : Tst := fun K => decide (PySem.W.kitOne K (.type a) (.type b) = some r)
theorem tKit_ok {a b : String} {r : Bool} {K : PySem.W.Frag} (c : tKit a b r K = true) : PySem.W.kitOne K (.type a) (.type b) = some r := of_decide_eq_true c
def tFirst (x : Str) : Tst := fun K => PySem.W.selfFirst K (He.ga K x)
/-- an instance of the class at x is one of it -/
def tIns (x : Str) : Tst := fun K => He.eqO (PySem.W.findIn K (.ref (He.ga K x)) "__class__") (some (some (.builtin "object.__class__"))) &&
  (He.eqO (PySem.W.specialIn K (.builtin "object.__class__") "__get__") (some (some (.builtin "getset_descriptor.__get__"))) && (decide (PySem.W.takesIn K (.builtin "object.__class__") = some true) &&
  (decide (PySem.W.mroIn K (He.ga K x) (.type "object") = some true) && decide (PySem.W.kitOne K (.ref (He.ga K x)) (.ref (He.ga K x)) = some true))))
structure InsC (K : PySem.W.Frag) (C : Addr) : Prop where
  ha : PySem.W.findIn K (.ref C) "__class__" = some (some (.builtin "object.__class__"))
  hn : PySem.W.specialIn K (.builtin "object.__class__") "__get__" = some (some (.builtin "getset_descriptor.__get__"))
  ht : PySem.W.takesIn K (.builtin "object.__class__") = some true
  hm : PySem.W.mroIn K C (.type "object") = some true
  is : PySem.W.kitOne K (.ref C) (.ref C) = some true
theorem tIns_ok {x : Str} {K : PySem.W.Frag} (c : tIns x K = true) : InsC K (He.ga K x) := by
  obtain ⟨h1, c⟩ := He.ba c
  obtain ⟨h2, c⟩ := He.ba c
  obtain ⟨h3, c⟩ := He.ba c
  obtain ⟨h4, h5⟩ := He.ba c
  exact ⟨He.eqO_ok h1, He.eqO_ok h2, of_decide_eq_true h3, of_decide_eq_true h4, of_decide_eq_true h5⟩
theorem InsC.ty {K : PySem.W.Frag} {C : Addr} (i : InsC K C) (cl : Cls K C) {H : Hp} {a dx : Addr} {fs : List (Str × V)} (e : H a = some (.ins C dx fs)) : TyX K H (.ref a) (.ref C) := .base (.ins e cl i.ha i.hn i.ht i.hm)
/-- the class at x, straight below object, has an __eq__ and no __ne__ -/
def tNe (x : Str) : Tst := fun K => match K.lookup (He.ga K x) with
  | some ⟨.type t, _, .cls cd, sl⟩ => decide (t = "type") && (decide (cd.mro = [.ref (He.ga K x), .type "object"]) && (cd.hasDict && (!cd.hasDel && ((match sl.toList with
      | [_, _, _, _, some (.builtin _), _] => true
      | _ => false) &&
      (PySem.W.nsOkIn K cd.ns && (He.eqO (PySem.W.nsIn K cd.ns "__eq__") (some (some (.ref (He.ma K (He.ga K x) "__eq__")))) && (He.eqO (PySem.W.nsIn K cd.ns "__ne__") (some none) &&
      (match K.lookup (He.ma K (He.ga K x) "__eq__") with
        | some ⟨.type f, _, _, _⟩ => decide (f = "function")
        | _ => false))))))))
  | _ => false
theorem tNe_ok {x : Str} {K : PySem.W.Frag} (c : tNe x K = true) : NeTxt K (He.ga K x) (He.ma K (He.ga K x) "__eq__") := by
  unfold tNe at c
  cases e : K.lookup (He.ga K x) with
  | none => rw [e] at c; cases c
  | some o =>
    rw [e] at c
    obtain ⟨oc, od, dt, sl⟩ := o
    cases oc with
    | type t =>
      cases dt with
      | cls cd =>
        obtain ⟨h1, c⟩ := He.ba c
        obtain ⟨h2, c⟩ := He.ba c
        obtain ⟨h3, c⟩ := He.ba c
        obtain ⟨h4, c⟩ := He.ba c
        obtain ⟨h5, c⟩ := He.ba c
        obtain ⟨h6, c⟩ := He.ba c
        obtain ⟨h7, c⟩ := He.ba c
        obtain ⟨h8, h9⟩ := He.ba c
        have e1 := of_decide_eq_true h1
        have e2 := of_decide_eq_true h2
        subst e1
        obtain ⟨nm, bs, mro, ns, qn, hdct, sn, sub, ab, col, hd⟩ := cd
        simp only at e2 h3 h4 h6 h7 h8
        subst e2
        cases hdct with
        | false => cases h3
        | true =>
          cases hd with
          | true => cases h4
          | false =>
            obtain ⟨sl⟩ := sl
            simp only at h5
            rcases sl with _ | ⟨a0, _ | ⟨a1, _ | ⟨a2, _ | ⟨a3, _ | ⟨a4, _ | ⟨a5, _ | ⟨a6, sl⟩⟩⟩⟩⟩⟩⟩
            case cons.cons.cons.cons.cons.cons.nil =>
              rcases a4 with _ | a4
              · cases h5
              cases a4 with
              | builtin n =>
                refine ⟨⟨nm, qn, ns, bs, sn, sub, ab, col, od, a0, a1, a2, a3, a5, n, e, h6, He.eqO_ok h7, He.eqO_ok h8⟩, ?_⟩
                cases e9 : K.lookup (He.ma K (He.ga K x) "__eq__") with
                | none => rw [e9] at h9; cases h9
                | some of =>
                  rw [e9] at h9
                  obtain ⟨fc, fdd, fdt, fsl⟩ := of
                  cases fc with
                  | type f => exact ⟨_, rfl, by rw [of_decide_eq_true h9]⟩
                  | _ => cases h9
              | _ => cases h5
            all_goals first | (cases h5; done) | (simp at h5; done) | (rcases a4 with _ | ⟨_⟩ <;> first | (cases h5; done) | (simp at h5; done))
      | _ => cases c
    | _ => cases dt <;> cases c
end Q7
set_option maxRecDepth 100000
set_option maxHeartbeats 4000000
namespace Q7
open PySem PySem.Spec PyProof.Rows L2
theorem tyT {K : PySem.W.Frag} {H : Hp} {p : Addr} {xs : List V} (h : SqT K H p xs) : TyX K H (.ref p) (.type "tuple") := by
  rcases h with (h | ⟨o, h⟩) | ⟨o, us, n, h, hc, _⟩
  · exact .base (.tup h)
  · exact .fTuple h
  · exact .kTuple h hc
theorem tyL {K : PySem.W.Frag} {H : Hp} {p : Addr} {xs : List V} (h : SqL K H p xs) : TyX K H (.ref p) (.type "list") := by
  rcases h with (h | ⟨o, h⟩) | ⟨o, us, n, h, hc, _⟩
  · exact .base (.lst h)
  · exact .base (.frz h)
  · exact .kList h hc
/-- a dict comprehension over a list that stays -/
theorem dc_list {K : PySem.W.Frag} {a : Addr} {xs : List V} {g : TG} {tt : TT} {tk tv : TE} {vs : List Nat} {σ : L2.St} {H1 : Hp} {D : Addr} {Qd : Hp → Prop} (Pv : Nat → Hp → Prop) (h0 : Pv 0 (upd H1 D (.dK []))) (hl : ∀ i H, i ≤ xs.length → Pv i H → SqL K H a xs)
    (hs : ∀ i x H, xs[i]? = some x → Pv i H → g x (wipe σ vs) H fun σ2 H2 => wipe σ2 vs = wipe σ vs ∧ tt σ2 H2 fun b H3 =>
      if b = true then tk σ2 H3 fun y H4 => tv σ2 H4 fun z H5 => ∃ kvs k, y = kV k ∧ H5 D = some (.dK kvs) ∧ kvs.length < sizeLine ∧ Pv (i + 1) (upd H5 D (.dK (putK kvs k z))) else Pv (i + 1) H3) (hd : ∀ H, Pv xs.length H → Qd H) :
    ∃ W : Nat → Nat → Hp → Prop, (∃ m, W 0 m (upd H1 D (.dK []))) ∧ ∀ i m H, W i m H →
      ((Itl K a).stop i H ∧ Qd H) ∨ ((Itl K a).go i H ∧ ∃ Nx : Hp → Prop, (∀ H', Nx H' → ∃ m', m' < m ∧ W (i + 1) m' H') ∧ ∀ x H', (Itl K a).yld i H x H' → g x (wipe σ vs) H' fun σ2 H2 => wipe σ2 vs = wipe σ vs ∧ tt σ2 H2 fun b H3 =>
        if b = true then tk σ2 H3 fun y H4 => tv σ2 H4 fun z H5 => ∃ kvs k, y = kV k ∧ H5 D = some (.dK kvs) ∧ kvs.length < sizeLine ∧ Nx (upd H5 D (.dK (putK kvs k z))) else Nx H3) := by
  refine ⟨fun i m H => m = xs.length - i ∧ i ≤ xs.length ∧ Pv i H, ⟨xs.length, by simp, Nat.zero_le _, h0⟩, ?_⟩
  rintro i m H ⟨rfl, hi, p⟩
  have q := hl i H hi p
  by_cases hlt : i < xs.length
  · refine .inr ⟨⟨xs, xs[i], q, by simp [hlt]⟩, Pv (i + 1), fun H' p' => ⟨xs.length - (i + 1), by omega, rfl, hlt, p'⟩, fun x H' y => ?_⟩
    obtain ⟨e, y⟩ := y
    subst e
    exact hs i x _ (y xs q) p
  · have e : i = xs.length := by omega
    subst e
    exact .inl ⟨⟨xs, q, Nat.le_refl _⟩, hd H p⟩
/-! ### dicts of fractions -/
def KvF (K : PySem.W.Frag) (H : Hp) : List (Key × V) → Rw → Prop := Paired fun kv p => kv.1 = Sum.inl p.1 ∧ FrV K H kv.2 p.2
section
variable {K : PySem.W.Frag} {H H' : Hp}
theorem kvF_tk : ∀ {ks : List (Key × V)} {m : Rw}, KvF K H ks m → TK H H' → KvF K H' ks m
  | _, _, .nil, _ => .nil
  | _, _, .cons h r, t => .cons ⟨h.1, frV_tk h.2 t⟩ (kvF_tk r t)
theorem kvF_get (t : Int) : ∀ {ks : List (Key × V)} {m : Rw}, KvF K H ks m → (valV ks (Sum.inl t) = none ∧ t ∉ m.map (·.1) ∧ look m t = 0) ∨ ∃ v, valV ks (Sum.inl t) = some v ∧ t ∈ m.map (·.1) ∧ FrV K H v (look m t)
  | _, _, .nil => .inl ⟨rfl, by simp, rfl⟩
  | _, _, .cons (a := kv) (b := (u, x)) (l₁ := ks) (l₂ := m) h r => by
    by_cases e : u = t
    · subst e
      exact .inr ⟨kv.2, valV_pos h.1, by simp, by unfold look; rw [if_pos rfl]; exact h.2⟩
    · have e2 : ¬ kv.1 = Sum.inl t := fun q => e (by rw [h.1] at q; exact Sum.inl.inj q)
      unfold look
      rw [valV_neg e2, if_neg e]
      rcases kvF_get t r with ⟨a, b, c⟩ | ⟨v, a, b, c⟩
      · exact .inl ⟨a, by simp only [List.map_cons, List.mem_cons]; rintro (q | q); exact e q.symm; exact b q, c⟩
      · exact .inr ⟨v, a, List.mem_cons_of_mem _ b, c⟩
theorem putK_eq {kv : Key × V} {r : List (Key × V)} {k : Key} {v : V} (e : kv.1 = k) (n : valV r k = none) : putK (kv :: r) k v = (kv.1, v) :: r := by
  unfold putK
  rw [if_pos (by rw [List.any_cons, decide_eq_true e]; rfl), List.map_cons, if_pos e]
  congr 1
  have : ∀ q ∈ r, (if q.1 = k then (q.1, v) else q) = q := fun q hq => by
    have h1 : (r.any fun kv => decide (kv.1 = k)) = false := by rw [valV_any, n]; rfl
    rw [if_neg fun e => by
      have := List.any_eq_false.mp h1 q hq
      exact this (decide_eq_true e)]
  exact (List.map_congr_left this).trans (List.map_id r)
theorem putK_ne {kv : Key × V} {r : List (Key × V)} {k : Key} {v : V} (e : ¬ kv.1 = k) : putK (kv :: r) k v = kv :: putK r k v := by
  unfold putK
  rw [List.any_cons, decide_eq_false e, Bool.false_or]
  by_cases h : (r.any fun kv => decide (kv.1 = k)) = true
  · rw [if_pos h, if_pos h, List.map_cons, if_neg e]
  · rw [if_neg h, if_neg h]
    rfl
theorem kvF_put {t : Int} {v : V} {q : Rat} : ∀ {ks : List (Key × V)} {m : Rw}, KvF K H ks m → (m.map (·.1)).Nodup → FrV K H v (look m t + q) → KvF K H (putK ks (Sum.inl t) v) (putS m t q)
  | _, _, .nil, _, f => .cons ⟨rfl, f⟩ .nil
  | _, _, .cons (a := kv) (b := (u, x)) (l₁ := ks) (l₂ := m) h r, nd, f => by
    have h1 := List.nodup_cons.mp nd
    unfold look at f
    unfold putS
    by_cases e : u = t
    · subst e
      rw [if_pos rfl] at f
      rw [if_pos rfl]
      rcases kvF_get u r with ⟨a, b, c⟩ | ⟨w, a, b, c⟩
      · rw [putK_eq h.1 a]
        exact .cons ⟨h.1, f⟩ r
      · exact absurd b h1.1
    · have e2 : ¬ kv.1 = Sum.inl t := fun q => e (by rw [h.1] at q; exact Sum.inl.inj q)
      rw [if_neg e] at f
      rw [if_neg e, putK_ne e2]
      exact .cons h (kvF_put r h1.2 f)
theorem kvF_keys : ∀ {ks : List (Key × V)} {m : Rw}, KvF K H ks m → ks.map (·.1) = (m.map (·.1)).map Sum.inl
  | _, _, .nil => rfl
  | _, _, .cons h r => by
    simp only [List.map_cons]
    rw [h.1, kvF_keys r]
theorem kvF_items {ts : List Addr} {ks : List (Key × V)} {m : Rw} (h : KvF K H ks m) (s : TK H H') (p : Paired (fun (t : Addr) (q : Key × V) => H' t = some (.tup [kV q.1, q.2])) ts ks) : PrsV K H' (ts.map V.ref) m := by
  induction p generalizing m with
  | nil => cases h; exact .nil
  | cons r _ ih =>
    cases h with
    | @cons _ q _ m h1 h2 =>
      obtain ⟨e, f⟩ := h1
      refine .cons ⟨_, _, rfl, sqT_of ?_, frV_tk f s⟩ (ih h2)
      rw [r, e]
      rfl
/-- an own row at v: its shares are a -/
def RowAt (K : PySem.W.Frag) (C : Addr) (H : Hp) (v : V) (a : Rw) : Prop := ∃ x dx d ks, v = .ref x ∧ H x = some (.ins C dx [("_shares", .ref d)]) ∧ H d = some (.dK ks) ∧ KvF K H ks a ∧ Nf a
theorem rowAt_same {C : Addr} {v : V} {a : Rw} (h : RowAt K C H v a) (s : Same H H') : RowAt K C H' v a := by
  obtain ⟨x, dx, d, ks, e, h1, h2, h3, n⟩ := h
  exact ⟨x, dx, d, ks, e, s _ _ h1, s _ _ h2, kvF_tk h3 (same_tk s), n⟩
theorem pick_snoc {m : Rw} {ys : List Int} {i : Nat} {t : Int} (h : ys[i]? = some t) : pick m (ys.take (i + 1)) = if look m t = 0 then pick m (ys.take i) else pick m (ys.take i) ++ [(t, look m t)] := by
  unfold pick
  rw [List.take_succ, h, List.map_append, List.filter_append]
  by_cases e : look m t = 0
  · rw [if_pos e]
    simp [e]
  · rw [if_neg e]
    simp [e]
theorem kvF_snoc {ks : List (Key × V)} {m : Rw} {t : Int} {v : V} {q : Rat} (h : KvF K H ks m) (f : FrV K H v q) : KvF K H (ks ++ [(Sum.inl t, v)]) (m ++ [(t, q)]) := pApp h (.cons ⟨rfl, f⟩ .nil)
theorem sums_take {ps : Rw} {i : Nat} {p : Int × Rat} (h : ps[i]? = some p) : sums (ps.take (i + 1)) = putS (sums (ps.take i)) p.1 p.2 := by
  rw [List.take_succ, h]
  exact sums_snoc _ p
theorem pick_key {m : Rw} {ys : List Int} (nd : ys.Nodup) {i : Nat} {t : Int} (h : ys[i]? = some t) : t ∉ (pick m (ys.take i)).map (·.1) := by
  intro q
  obtain ⟨p, hp, e⟩ := List.mem_map.mp q
  unfold pick at hp
  obtain ⟨k, hk, rfl⟩ := List.mem_map.mp (List.mem_filter.mp hp).1
  simp only at e
  subst e
  obtain ⟨j, hj, e2⟩ := List.getElem_of_mem hk
  rw [List.getElem_take] at e2
  rw [List.length_take] at hj
  have e3 : ys[j]? = ys[i]? := by rw [h, List.getElem?_eq_getElem (by omega), e2]
  have := (List.getElem?_inj (by omega) nd).mp e3
  omega
theorem frV_same {v : V} {q : Rat} (h : FrV K H v q) (s : Same H H') : FrV K H' v q := frV_tk h (same_tk s)
end
end Q7
set_option maxRecDepth 100000
set_option maxHeartbeats 4000000
namespace Q7
open PySem PySem.Spec PyProof.Rows L2
/-- the turns over a list that stays, from any heap, with any body -/
theorem turn_list {K : PySem.W.Frag} {a : Addr} {xs : List V} {g : TG} {tt : TT} (Bd : L2.St → Hp → (Hp → Prop) → Prop) {vs : List Nat} {σ : L2.St} {Hs : Hp} {Qd : Hp → Prop} (Pv : Nat → Hp → Prop) (h0 : Pv 0 Hs) (hl : ∀ i H, i ≤ xs.length → Pv i H → SqL K H a xs)
    (hs : ∀ i x H, xs[i]? = some x → Pv i H → g x (wipe σ vs) H fun σ2 H2 => wipe σ2 vs = wipe σ vs ∧ tt σ2 H2 fun b H3 =>
      if b = true then Bd σ2 H3 (Pv (i + 1)) else Pv (i + 1) H3) (hd : ∀ H, Pv xs.length H → Qd H) :
    ∃ W : Nat → Nat → Hp → Prop, (∃ m, W 0 m Hs) ∧ ∀ i m H, W i m H →
      ((Itl K a).stop i H ∧ Qd H) ∨ ((Itl K a).go i H ∧ ∃ Nx : Hp → Prop, (∀ H', Nx H' → ∃ m', m' < m ∧ W (i + 1) m' H') ∧ ∀ x H', (Itl K a).yld i H x H' → g x (wipe σ vs) H' fun σ2 H2 => wipe σ2 vs = wipe σ vs ∧ tt σ2 H2 fun b H3 =>
        if b = true then Bd σ2 H3 Nx else Nx H3) := by
  refine ⟨fun i m H => m = xs.length - i ∧ i ≤ xs.length ∧ Pv i H, ⟨xs.length, by simp, Nat.zero_le _, h0⟩, ?_⟩
  rintro i m H ⟨rfl, hi, p⟩
  have q := hl i H hi p
  by_cases hlt : i < xs.length
  · refine .inr ⟨⟨xs, xs[i], q, by simp [hlt]⟩, Pv (i + 1), fun H' p' => ⟨xs.length - (i + 1), by omega, rfl, hlt, p'⟩, fun x H' y => ?_⟩
    obtain ⟨e, y⟩ := y
    subst e
    exact hs i x _ (y xs q) p
  · have e : i = xs.length := by omega
    subst e
    exact .inl ⟨⟨xs, q, Nat.le_refl _⟩, hd H p⟩
/-! ### equality of dicts of fractions -/
def enc (a : Rw) : List (Key × PyData) := a.map fun p => (Sum.inl p.1, fr p.2)
theorem kvF_kvd {K : PySem.W.Frag} {H : Hp} : ∀ {ks : List (Key × V)} {m : Rw}, KvF K H ks m → KvD K H ks (enc m)
  | _, _, .nil => .nil
  | _, _, .cons h r => .cons ⟨h.1, frV_dp h.2, sh_fr _⟩ (kvF_kvd r)
theorem find_enc (t : Int) : ∀ {b : Rw}, (∃ q, findD (enc b) (Sum.inl t) = some (fr q) ∧ (t, q) ∈ b) ∨ (findD (enc b) (Sum.inl t) = none ∧ t ∉ b.map (·.1))
  | [] => .inr ⟨rfl, by simp⟩
  | (u, x) :: b => by
    by_cases e : u = t
    · subst e
      refine .inl ⟨x, ?_, List.mem_cons_self⟩
      unfold findD enc
      rw [List.map_cons, List.find?_cons_of_pos (by simp)]
      rfl
    · have e2 : findD (enc ((u, x) :: b)) (Sum.inl t) = findD (enc b) (Sum.inl t) := by
        unfold findD enc
        rw [List.map_cons, List.find?_cons_of_neg (by simp; exact e)]
      rw [e2]
      rcases find_enc t (b := b) with ⟨q, h1, h2⟩ | ⟨h1, h2⟩
      · exact .inl ⟨q, h1, List.mem_cons_of_mem _ h2⟩
      · exact .inr ⟨h1, by simp only [List.map_cons, List.mem_cons]; rintro (q | q); exact e q.symm; exact h2 q⟩
theorem sub_len : ∀ {b a : Rw}, (a.Pairwise fun x y => x.1 < y.1) → (b.Pairwise fun x y => x.1 < y.1) → (∀ p ∈ a, p ∈ b) → a.length ≤ b.length ∧ (a.length = b.length → a = b)
  | [], a, _, _, s => by
    cases a with
    | nil => exact ⟨Nat.le_refl _, fun _ => rfl⟩
    | cons p r => exact absurd (s p List.mem_cons_self) (by simp)
  | q :: b, [], _, _, _ => ⟨by simp, fun h => by simp at h⟩
  | q :: b, p :: a, ha, hb, s => by
    have a2 := List.pairwise_cons.mp ha
    have b2 := List.pairwise_cons.mp hb
    rcases List.mem_cons.mp (s p List.mem_cons_self) with e | h
    · subst e
      have ih := sub_len (b := b) (a := a) a2.2 b2.2 fun x hx => by
        rcases List.mem_cons.mp (s x (List.mem_cons_of_mem _ hx)) with e | h
        · subst e; have := a2.1 x hx; omega
        · exact h
      refine ⟨by simp only [List.length_cons]; omega, fun h => ?_⟩
      rw [ih.2 (by simp only [List.length_cons] at h; omega)]
    · have ih := sub_len (b := b) (a := p :: a) ha b2.2 fun x hx => by
        rcases List.mem_cons.mp hx with rfl | hx2
        · exact h
        · rcases List.mem_cons.mp (s x hx) with e | h2
          · subst e; have h3 := a2.1 x hx2; have h4 := b2.1 p h; omega
          · exact h2
      refine ⟨by simp only [List.length_cons] at *; omega, fun h => ?_⟩
      simp only [List.length_cons] at *
      omega
theorem nd_of_asc {b : Rw} (h : b.Pairwise fun x y => x.1 < y.1) {t : Int} {x y : Rat} (h1 : (t, x) ∈ b) (h2 : (t, y) ∈ b) : x = y := by
  induction b with
  | nil => simp at h1
  | cons p r ih =>
    have h3 := List.pairwise_cons.mp h
    rcases List.mem_cons.mp h1 with e | m1
    · rcases List.mem_cons.mp h2 with e2 | m2
      · rw [← e] at e2; exact (Prod.mk.inj e2).2.symm
      · have := h3.1 _ m2; rw [← e] at this; simp at this
    · rcases List.mem_cons.mp h2 with e2 | m2
      · have := h3.1 _ m1; rw [← e2] at this; simp at this
      · exact ih h3.2 m1 m2
theorem eqKv_enc {a b : Rw} (na : Nf a) (nb : Nf b) : eqKv (enc a) (enc b) = decide (a = b) := by
  unfold eqKv
  rw [show (enc a).length = a.length from List.length_map .., show (enc b).length = b.length from List.length_map ..]
  by_cases hl : a.length = b.length
  · rw [show (a.length == b.length) = true by simpa using hl, Bool.true_and]
    by_cases h : ∀ p ∈ a, p ∈ b
    · have e := (sub_len na.asc nb.asc h).2 hl
      subst e
      rw [decide_eq_true rfl, List.all_eq_true]
      intro q hq
      obtain ⟨p, hp, rfl⟩ := List.mem_map.mp hq
      simp only
      rcases find_enc p.1 (b := a) with ⟨x, h1, h2⟩ | ⟨_, h2⟩
      · rw [h1]
        simp only
        rw [nd_of_asc na.asc h2 hp, eqv_fr, decide_eq_true rfl]
      · exact absurd (List.mem_map.mpr ⟨p, hp, rfl⟩) h2
    · rw [decide_eq_false fun e => h (by subst e; exact fun p hp => hp)]
      rw [List.all_eq_false]
      have ⟨p, hp⟩ := Classical.not_forall.mp h
      have ⟨hp1, hp2⟩ := Classical.not_imp.mp hp
      refine ⟨_, List.mem_map.mpr ⟨p, hp1, rfl⟩, ?_⟩
      simp only
      rcases find_enc p.1 (b := b) with ⟨x, h1, h2⟩ | ⟨h1, _⟩
      · rw [h1]
        simp only
        rw [eqv_fr, decide_eq_false]
        · simp
        · intro e; exact hp2 (by rw [← e] at h2; exact h2)
      · rw [h1]
        simp
  · rw [show (a.length == b.length) = false by simpa using hl, Bool.false_and, decide_eq_false fun e => hl (by rw [e])]
end Q7
set_option maxHeartbeats 2000000
namespace Q7
def mv (n : Int) (a : Rw) : Rw := a.map fun p => (p.1 + n, p.2)
def upTo (n : Int) (a : Rw) : Rw := a.filter fun p => decide (p.1 ≤ n)
def eqAt (n : Int) (a : Rw) : Rw := a.filter fun p => decide (p.1 = n)
theorem wt_mv (f : Int → Rat) (n : Int) : ∀ a : Rw, wt f (mv n a) = wt (fun t => f (t + n)) a
  | [] => rfl
  | (t, q) :: r => by
    show q * f (t + n) + wt f (mv n r) = _
    rw [wt_mv f n r]
    rfl
theorem nf_mv {n : Int} {a : Rw} (h : Nf a) : Nf (mv n a) := by
  refine ⟨?_, ?_⟩
  · unfold mv
    rw [List.pairwise_map]
    exact h.asc.imp fun h => by show _ + n < _ + n; omega
  · intro p hp
    obtain ⟨x, hx, rfl⟩ := List.mem_map.mp hp
    exact h.nz x hx
theorem nf_sub {a b : Rw} (h : Nf b) (s : a.Sublist b) : Nf a := ⟨h.asc.sublist s, fun p hp => h.nz p (s.subset hp)⟩
theorem nf_upTo {n : Int} {a : Rw} (h : Nf a) : Nf (upTo n a) := nf_sub h List.filter_sublist
theorem one_mv (n : Int) (a : Rw) : norm (mv n a) = norm (prod a (norm [(n, 1)])) := norm_eq fun f => by
  rw [wt_mv, wt_prod]
  congr 1
  funext t
  rw [wt_norm]
  show _ = 1 * f (t + n) + 0
  rw [Rat.one_mul, Rat.add_zero]
theorem sum_at (n : Int) : ∀ a : Rw, ((eqAt n a).map (·.2)).sum = wt (at_ n) a
  | [] => rfl
  | (t, q) :: r => by
    have ih := sum_at n r
    unfold eqAt at *
    show _ = q * at_ n t + wt (at_ n) r
    unfold at_ at *
    by_cases e : t = n
    · rw [if_pos e, Rat.mul_one, List.filter_cons_of_pos (by simpa using e), List.map_cons, List.sum_cons, ih]
    · rw [if_neg e, Rat.mul_zero, Rat.zero_add, List.filter_cons_of_neg (by simpa using e), ih]
theorem look_nf {a : Rw} (h : Nf a) (t : Int) : look a t = wt (at_ t) a := look_wt (List.nodup_iff_pairwise_ne.mpr (by
  rw [List.pairwise_map]
  exact h.asc.imp fun h => by omega)) t
theorem look_at {a : Rw} (h : Nf a) (n : Int) : look a n = ((eqAt n a).map (·.2)).sum := by rw [look_nf h, sum_at]
theorem norm_rev (ps : Rw) : norm ps.reverse = norm ps := norm_eq fun f => wt_perm f (List.reverse_perm ps)
theorem norm_norm (ps : Rw) : norm (norm ps) = norm ps := norm_self (norm_nf ps)
/-- two ascending lists with the same members -/
theorem asc_eq : ∀ {l l' : List Int}, l.Pairwise (· < ·) → l'.Pairwise (· < ·) → (∀ x, x ∈ l ↔ x ∈ l') → l = l'
  | [], [], _, _, _ => rfl
  | [], y :: r, _, _, h => absurd ((h y).mpr List.mem_cons_self) (by simp)
  | x :: r, [], _, _, h => absurd ((h x).mp List.mem_cons_self) (by simp)
  | x :: r, y :: s, h1, h2, h => by
    have a1 := List.pairwise_cons.mp h1
    have a2 := List.pairwise_cons.mp h2
    have e : x = y := by
      rcases List.mem_cons.mp ((h x).mp List.mem_cons_self) with e | m
      · exact e
      · rcases List.mem_cons.mp ((h y).mpr List.mem_cons_self) with e | m2
        · exact e.symm
        · have := a1.1 y m2; have := a2.1 x m; omega
    subst e
    rw [asc_eq a1.2 a2.2 fun z => ⟨fun m => by
      rcases List.mem_cons.mp ((h z).mp (List.mem_cons_of_mem _ m)) with e | m2
      · subst e; have := a1.1 z m; omega
      · exact m2, fun m => by
      rcases List.mem_cons.mp ((h z).mpr (List.mem_cons_of_mem _ m)) with e | m2
      · subst e; have := a2.1 z m; omega
      · exact m2⟩]
/-- the ticks below n of a row within -/
def ticksIn (n : Nat) (a : Rw) : List Int := ((List.range n).map fun k => ((k : Nat) : Int)).filter fun t => decide (t ∈ a.map (·.1))
theorem ticks_all {n : Nat} {a : Rw} (h : Nf a) (hb : ∀ p ∈ a, 0 ≤ p.1 ∧ p.1 < n) : ticksIn n a = a.map (·.1) := by
  refine asc_eq ?_ (List.pairwise_map.mpr h.asc) fun x => ?_
  · refine List.Pairwise.filter _ ?_
    rw [List.pairwise_map]
    exact List.pairwise_lt_range.imp fun h => by omega
  · unfold ticksIn
    rw [List.mem_filter]
    constructor
    · intro ⟨_, h⟩; exact of_decide_eq_true h
    · intro hx
      refine ⟨?_, decide_eq_true hx⟩
      obtain ⟨p, hp, rfl⟩ := List.mem_map.mp hx
      have := hb p hp
      exact List.mem_map.mpr ⟨p.1.toNat, List.mem_range.mpr (by omega), by omega⟩
/-! ### the identities of rows -/
theorem add_ok (a b : Rw) : norm (norm a ++ norm b) = norm (a ++ b) := norm_eq fun f => by rw [wt_append, wt_append, wt_norm, wt_norm]
theorem mul_ok (a b : Rw) : norm (prod (norm a) (norm b)) = norm (prod a b) := norm_eq fun f => by
  rw [wt_prod, wt_prod, wt_norm]
  congr 1
  funext t
  rw [wt_norm]
theorem mul_comm' (a b : Rw) : norm (prod a b) = norm (prod b a) := norm_eq fun f => by
  rw [wt_prod, wt_prod, wt_swap]
  congr 1
  funext t
  congr 1
  funext u
  rw [Int.add_comm]
theorem add_comm' (a b : Rw) : norm (a ++ b) = norm (b ++ a) := norm_eq fun f => by rw [wt_append, wt_append, Rat.add_comm]
theorem mul_assoc' (a b c : Rw) : norm (prod (norm (prod a b)) c) = norm (prod a (norm (prod b c))) := norm_eq fun f => by
  rw [wt_prod, wt_norm, wt_prod, wt_prod]
  congr 1
  funext t
  rw [wt_norm, wt_prod]
  congr 1
  funext u
  congr 1
  funext v
  rw [Int.add_assoc]
theorem mul_add' (a b c : Rw) : norm (prod a (norm (b ++ c))) = norm (norm (prod a b) ++ norm (prod a c)) := norm_eq fun f => by
  rw [wt_append, wt_norm, wt_norm, wt_prod, wt_prod, wt_prod, ← wt_add]
  congr 1
  funext t
  rw [wt_norm, wt_append]
/-! ### sizes -/
theorem Gd.mv {D M T L : Nat} {a : Rw} (h : Gd D M T L a) {n : Int} {N : Nat} (h0 : 0 ≤ n) (h1 : n ≤ N) : Gd D M (T + N) L (mv n a) := by
  refine ⟨?_, ?_, ?_, ?_⟩
  · intro p hp; obtain ⟨x, hx, rfl⟩ := List.mem_map.mp hp; exact h.nd x hx
  · intro p hp; obtain ⟨x, hx, rfl⟩ := List.mem_map.mp hp; have := h.lo x hx; show 0 ≤ x.1 + n; omega
  · intro p hp; obtain ⟨x, hx, rfl⟩ := List.mem_map.mp hp; have := h.hi x hx; show x.1 + n ≤ _; omega
  · unfold Q7.mv; rw [List.length_map]; exact h.len
theorem ND.one : ND 1 1 1 := ⟨1, by rfl, by decide⟩
theorem Gd.single {n : Int} {N : Nat} (h0 : 0 ≤ n) (h1 : n ≤ N) : Gd 1 1 N 1 [(n, 1)] := by
  refine ⟨?_, ?_, ?_, by simp⟩
  · intro p hp; rw [List.mem_singleton] at hp; subst hp; exact ND.one
  · intro p hp; rw [List.mem_singleton] at hp; subst hp; exact h0
  · intro p hp; rw [List.mem_singleton] at hp; subst hp; exact h1
/-- as rows of the law are -/
def Gs (ps : Rw) : Prop := ∃ D M, Gd D M 8 63 ps ∧ 0 < D ∧ D < 2 ^ 900 ∧ M < 2 ^ 900
theorem lt_k {M n a b : Nat} (h : M < 2 ^ a) (hn : n ≤ 2 ^ 8) (hab : a + 8 ≤ b) : n * M < 2 ^ b := by
  have h1 : n * M ≤ 2 ^ 8 * M := Nat.mul_le_mul hn (Nat.le_refl _)
  have h2 : 2 ^ 8 * M < 2 ^ 8 * 2 ^ a := Nat.mul_lt_mul_of_pos_left h (by decide)
  rw [← Nat.pow_add] at h2
  have h3 := pow_le' (show 8 + a ≤ b by omega)
  omega
theorem Gs.q {ps : Rw} (h : Gs ps) : Gq ps := by
  obtain ⟨D, M, g, hD, h1, h2⟩ := h
  exact ⟨D, M, 8, g, hD, Nat.lt_of_lt_of_le h1 (pow_le' (by decide)), Nat.lt_of_lt_of_le h2 (pow_le' (by decide))⟩
theorem Gs.norm {ps : Rw} (h : Gs ps) : Gq (norm ps) := by
  obtain ⟨D, M, g, hD, h1, h2⟩ := h
  exact ⟨D, 63 * M, 8, g.norm hD, hD, Nat.lt_of_lt_of_le h1 (pow_le' (by decide)), lt_k h2 (by decide) (by decide)⟩
theorem Gs.mv {ps : Rw} (h : Gs ps) {n : Int} (h0 : 0 ≤ n) (h1' : n ≤ 8) : Gq (mv n (Q7.norm ps)) := by
  obtain ⟨D, M, g, hD, h1, h2⟩ := h
  exact ⟨D, 63 * M, 8 + 8, (g.norm hD).mv (N := 8) h0 (by omega), hD, Nat.lt_of_lt_of_le h1 (pow_le' (by decide)), lt_k h2 (by decide) (by decide)⟩
theorem Gq.single {n : Int} (h0 : 0 ≤ n) (h1 : n ≤ 8) : Gq [(n, 1)] := ⟨1, 1, 8, (Gd.single (N := 8) h0 (by omega)).mono (Nat.le_refl _) (Nat.le_refl _) (by decide), by decide, Nat.one_lt_two_pow (by decide), Nat.one_lt_two_pow (by decide)⟩
theorem Gq.singleN {n : Int} (h0 : 0 ≤ n) (h1 : n ≤ 8) : Gq (norm [(n, 1)]) := ⟨1, 1 * 1, 8, ((Gd.single (N := 8) h0 (by omega)).norm (by decide)).mono (Nat.le_refl _) (Nat.le_refl _) (by decide), by decide, Nat.one_lt_two_pow (by decide), Nat.one_lt_two_pow (by decide)⟩
theorem Gs.single {ps : Rw} (h : Gs ps) {n : Int} (h0 : 0 ≤ n) (h1' : n ≤ 8) : Gq (prod (Q7.norm ps) (Q7.norm [(n, 1)])) := by
  obtain ⟨D, M, g, hD, h1, h2⟩ := h
  have := (g.norm hD).prod ((Gd.single (N := 8) h0 (by omega)).norm (by decide))
  exact ⟨D * 1, (63 * M) * (1 * 1), 8 + 8, this, by omega, by rw [Nat.mul_one]; exact Nat.lt_of_lt_of_le h1 (pow_le' (by decide)), by rw [Nat.mul_one]; exact lt_k h2 (by decide) (by decide)⟩
theorem Gs.tick {ps : Rw} (h : Gs ps) : ∀ p ∈ Q7.norm ps, 0 ≤ p.1 ∧ p.1 < (9 : Nat) := by
  obtain ⟨D, M, g, hD, h1, h2⟩ := h
  intro p hp
  have g2 := g.norm hD
  have := g2.lo p hp
  have := g2.hi p hp
  omega
theorem p900 {D : Nat} (h : D < 2 ^ 100) : D < 2 ^ 900 := Nat.lt_of_lt_of_le h (pow_le' (by decide))
theorem p1000 {D : Nat} (h : D < 2 ^ 100) : D < 2 ^ 2900 := Nat.lt_of_lt_of_le h (pow_le' (by decide))
abbrev Gp (ps : Rw) : Prop := Gd 60 240 4 5 ps
section
variable {a b c : Rw}
theorem Gp.s (h : Gp a) : Gs a := ⟨60, 240, h.mono (by decide) (by decide) (by decide), by decide, p900 (by decide), p900 (by decide)⟩
theorem Gp.n (h : Gp a) : Gd 60 1200 4 5 (norm a) := h.norm (by decide)
theorem Gp.gq (h : Gp a) : Gq (norm a) := h.s.norm
theorem Gp.pr (h : Gp a) (k : Gp b) : Gd 3600 57600 8 25 (prod a b) := h.prod k
theorem Gp.prq (h : Gp a) (k : Gp b) : Gq (prod a b) := Gq.of (h.pr k) (by decide) (p1000 (by decide)) (p1000 (by decide)) (by decide)
theorem Gp.prs (h : Gp a) (k : Gp b) : Gs (norm (prod a b)) := ⟨3600, 25 * 57600, ((h.pr k).norm (by decide)).mono (Nat.le_refl _) (by decide) (by decide), by decide, p900 (by decide), p900 (by decide)⟩
theorem Gp.sum (h : Gp a) (k : Gp b) : Gd 60 240 4 10 (a ++ b) := h.app k
theorem Gp.sumq (h : Gp a) (k : Gp b) : Gq (a ++ b) := Gq.of (h.sum k) (by decide) (p1000 (by decide)) (p1000 (by decide)) (by decide)
theorem Gp.sumn (h : Gp a) (k : Gp b) : Gd 60 1200 4 10 (norm a ++ norm b) := h.n.app k.n
theorem Gp.sumnq (h : Gp a) (k : Gp b) : Gq (norm a ++ norm b) := Gq.of (h.sumn k) (by decide) (p1000 (by decide)) (p1000 (by decide)) (by decide)
theorem Gp.sumN (h : Gp a) (k : Gp b) : Gd 60 12000 4 5 (norm (norm a ++ norm b)) := (h.sumn k).normT (by decide)
theorem Gp.sumNq (h : Gp a) (k : Gp b) : Gq (norm (norm a ++ norm b)) := Gq.of (h.sumN k) (by decide) (p1000 (by decide)) (p1000 (by decide)) (by decide)
theorem Gp.prn (h : Gp a) (k : Gp b) : Gd 3600 1440000 8 25 (prod (norm a) (norm b)) := h.n.prod k.n
theorem Gp.prnq (h : Gp a) (k : Gp b) : Gq (prod (norm a) (norm b)) := Gq.of (h.prn k) (by decide) (p1000 (by decide)) (p1000 (by decide)) (by decide)
theorem Gp.prN (h : Gp a) (k : Gp b) : Gd 3600 36000000 8 9 (norm (prod (norm a) (norm b))) := (h.prn k).normT (by decide)
theorem Gp.prNq (h : Gp a) (k : Gp b) : Gq (norm (prod (norm a) (norm b))) := Gq.of (h.prN k) (by decide) (p1000 (by decide)) (p1000 (by decide)) (by decide)
theorem Gp.pr3 (h : Gp a) (k : Gp b) (l : Gp c) : Gq (prod (norm (prod (norm a) (norm b))) (norm c)) := Gq.of ((h.prN k).prod l.n) (by decide) (p1000 (by decide)) (p1000 (by decide)) (by decide)
theorem Gp.pr3' (h : Gp a) (k : Gp b) (l : Gp c) : Gq (prod (norm a) (norm (prod (norm b) (norm c)))) := Gq.of (h.n.prod (k.prN l)) (by decide) (p1000 (by decide)) (p1000 (by decide)) (by decide)
theorem Gp.prs3 (h : Gp a) (k : Gp b) (l : Gp c) : Gq (prod (norm a) (norm (norm b ++ norm c))) := Gq.of (h.n.prod (k.sumN l)) (by decide) (p1000 (by decide)) (p1000 (by decide)) (by decide)
theorem Gp.spr3 (h : Gp a) (k : Gp b) (l : Gp c) : Gq (norm (prod (norm a) (norm b)) ++ norm (prod (norm a) (norm c))) := Gq.of ((h.prN k).app (h.prN l)) (by decide) (p1000 (by decide)) (p1000 (by decide)) (by decide)
end
end Q7
set_option maxHeartbeats 2000000
namespace Q7
theorem wt_congr {f g : Int → Rat} : ∀ {a : Rw}, (∀ p ∈ a, f p.1 = g p.1) → wt f a = wt g a
  | [], _ => rfl
  | (t, q) :: r, h => by
    show q * f t + wt f r = q * g t + wt g r
    rw [wt_congr (a := r) fun p hp => h p (List.mem_cons_of_mem _ hp), show f t = g t from h (t, q) List.mem_cons_self]
theorem wt_upTo (f : Int → Rat) (n : Int) : ∀ a : Rw, wt f (upTo n a) = wt (fun u => if u ≤ n then f u else 0) a
  | [] => rfl
  | (t, q) :: r => by
    have ih := wt_upTo f n r
    unfold upTo at *
    show _ = q * (if t ≤ n then f t else 0) + wt (fun u => if u ≤ n then f u else 0) r
    by_cases e : t ≤ n
    · rw [if_pos e, List.filter_cons_of_pos (by simpa using e), ← ih]
      rfl
    · rw [if_neg e, List.filter_cons_of_neg (by simpa using e), ← ih, Rat.mul_zero, Rat.zero_add]
theorem sum_wt : ∀ a : Rw, (a.map (·.2)).sum = wt (fun _ => 1) a
  | [] => rfl
  | (t, q) :: r => by
    show (q :: r.map (·.2)).sum = q * 1 + wt (fun _ => 1) r
    rw [List.sum_cons, sum_wt r, Rat.mul_one]
abbrev tot (a : Rw) : Rat := (a.map (·.2)).sum
theorem nf_eq {a b : Rw} (ha : Nf a) (hb : Nf b) (h : ∀ f, wt f a = wt f b) : a = b := Nf.eq ha hb h
theorem norm_nil : norm [] = [] := Nf.eq (norm_nf []) ⟨.nil, by simp⟩ fun f => wt_norm f []
theorem add_assoc3 (a b c : Rw) : norm (norm (a ++ b) ++ c) = norm (a ++ norm (b ++ c)) := norm_eq fun f => by
  rw [wt_append, wt_norm, wt_append, wt_append, wt_norm, wt_append, Rat.add_assoc]
theorem add_none {a : Rw} (h : Nf a) : norm (a ++ norm []) = a := by rw [norm_nil, List.append_nil]; exact norm_self h
theorem mul_none (a : Rw) : norm (prod a (norm [])) = [] := by
  rw [norm_nil]
  refine Nf.eq (norm_nf _) ⟨.nil, by simp⟩ fun f => ?_
  rw [wt_norm, wt_prod]
  show wt (fun _ => 0) a = 0
  exact wt_zero a
theorem add_mul' (a b c : Rw) : norm (prod (norm (a ++ b)) c) = norm (norm (prod a c) ++ norm (prod b c)) := norm_eq fun f => by
  rw [wt_append, wt_norm, wt_norm, wt_prod, wt_norm, wt_append, wt_prod, wt_prod]
theorem wt_single (f : Int → Rat) (t : Int) (x : Rat) : wt f [(t, x)] = x * f t := by
  show x * f t + 0 = _
  rw [Rat.add_zero]
theorem mul_one' {a : Rw} (h : Nf a) : norm (prod a (norm [(0, 1)])) = a := norm_of h fun f => by
  rw [wt_prod]
  congr 1
  funext t
  rw [wt_norm, wt_single, Rat.one_mul, Int.add_zero]
theorem add_self (a : Rw) : norm (a ++ a) = norm (prod a (norm [(0, 2)])) := norm_eq fun f => by
  rw [wt_append, wt_prod, ← wt_add]
  congr 1
  funext t
  rw [wt_norm, wt_single, Int.add_zero]
  grind
theorem add_neg' (a : Rw) : norm (a ++ norm (prod a (norm [(0, -1)]))) = norm [] := norm_eq fun f => by
  rw [wt_append, wt_norm, wt_prod, ← wt_add]
  show _ = 0
  rw [← wt_zero a]
  congr 1
  funext t
  rw [wt_norm, wt_single, Int.add_zero]
  grind
theorem tot_norm (a : Rw) : tot (norm a) = tot a := by rw [tot, tot, sum_wt, sum_wt, wt_norm]
theorem tot_app (a b : Rw) : tot (a ++ b) = tot a + tot b := by rw [tot, tot, tot, sum_wt, sum_wt, sum_wt, wt_append]
theorem wt_const (x : Rat) (a : Rw) : wt (fun _ => x) a = tot a * x := by
  have := wt_smul x (fun _ => 1) a
  rw [tot, sum_wt]
  rw [show (fun _ : Int => x) = fun t => x * (fun _ : Int => (1 : Rat)) t from funext fun _ => by rw [Rat.mul_one], this, Rat.mul_comm]
theorem tot_prod (a b : Rw) : tot (prod a b) = tot a * tot b := by
  rw [tot, sum_wt, wt_prod, wt_const, tot, tot, sum_wt b]
/-! ### ticks -/
theorem mem_keys {a : Rw} {t : Int} (h : t ∈ a.map (·.1)) : ∃ q, (t, q) ∈ a := by
  obtain ⟨p, hp, rfl⟩ := List.mem_map.mp h
  exact ⟨p.2, hp⟩
theorem look_in {a : Rw} (h : Nf a) (t : Int) : decide (look a t = 0) = !decide (t ∈ a.map (·.1)) := by
  by_cases e : t ∈ a.map (·.1)
  · obtain ⟨q, hq⟩ := mem_keys e
    rw [decide_eq_true e, decide_eq_false]
    · rfl
    · rw [look_nf h]
      have := h.wt_mem (t, q) hq
      simp only at this
      rw [this]
      exact h.nz _ hq
  · rw [decide_eq_false e, look_mem fun p hp z => e (List.mem_map.mpr ⟨p, hp, z⟩)]
    rfl
theorem tot_step {a : Rw} (h : Nf a) (t : Int) : tot (upTo t a) = tot (upTo (t - 1) a) + look a t := by
  rw [look_nf h, tot, tot, sum_wt, sum_wt, wt_upTo, wt_upTo, ← wt_add]
  refine wt_congr fun p _ => ?_
  unfold at_
  by_cases h1 : p.1 ≤ t - 1
  · rw [if_pos h1, if_pos (by omega), if_neg (by omega), Rat.add_zero]
  · rw [if_neg h1, Rat.zero_add]
    by_cases h2 : p.1 = t
    · rw [if_pos (by omega), if_pos h2]
    · rw [if_neg (by omega), if_neg h2]
theorem cut_cut {a : Rw} {t u : Int} (h : t ≤ u) : upTo u (upTo t a) = upTo t a := by
  unfold upTo
  rw [List.filter_eq_self]
  intro p hp
  have := of_decide_eq_true (List.mem_filter.mp hp).2
  exact decide_eq_true (by omega)
theorem norm_upTo (t : Int) (a : Rw) : norm (upTo t (norm a)) = norm (upTo t a) := norm_eq fun f => by rw [wt_upTo, wt_norm, wt_upTo]
theorem upTo_norm (t : Int) (a : Rw) : upTo t (norm a) = norm (upTo t a) := by rw [← norm_upTo, norm_self (nf_upTo (norm_nf a))]
theorem cut_add (t : Int) (a b : Rw) : norm (upTo t (norm (a ++ b))) = norm (norm (upTo t a) ++ norm (upTo t b)) := by
  rw [norm_upTo, add_ok]
  unfold upTo
  rw [List.filter_append]
theorem cut_mul (t : Int) {a b : Rw} (ha : ∀ p ∈ a, 0 ≤ p.1) (hb : ∀ p ∈ b, 0 ≤ p.1) : norm (upTo t (norm (prod a b))) = norm (upTo t (norm (prod (norm (upTo t a)) (norm (upTo t b))))) := by
  rw [norm_upTo, norm_upTo]
  refine norm_eq fun f => ?_
  rw [wt_upTo, wt_upTo, wt_prod, wt_prod, wt_norm, wt_upTo]
  refine wt_congr fun p hp => ?_
  have h1 := ha p hp
  rw [wt_norm, wt_upTo]
  by_cases e : p.1 ≤ t
  · rw [if_pos e]
    refine wt_congr fun q hq => ?_
    have h2 := hb q hq
    by_cases e2 : q.1 ≤ t
    · rw [if_pos e2]
    · rw [if_neg e2, if_neg (by omega)]
  · rw [if_neg e]
    refine (wt_congr (g := fun _ => 0) fun q hq => ?_).trans (wt_zero b)
    have h2 := hb q hq
    rw [if_neg (by omega)]
theorem mv_mul (t : Int) (a b : Rw) : norm (mv t (norm (prod a b))) = norm (prod (norm (mv t a)) b) := norm_eq fun f => by
  rw [wt_mv, wt_norm, wt_prod, wt_prod, wt_norm, wt_mv]
  congr 1
  funext x
  congr 1
  funext y
  rw [show x + y + t = x + t + y by omega]
theorem mv_cut (t : Int) (a : Rw) : upTo (t + 3) (mv t a) = mv t (upTo 3 a) := by
  unfold upTo mv
  rw [List.filter_map]
  congr 1
  refine List.filter_congr fun p _ => ?_
  show decide (p.1 + t ≤ t + 3) = decide (p.1 ≤ 3)
  by_cases h : p.1 ≤ 3
  · rw [decide_eq_true h, decide_eq_true (by omega)]
  · rw [decide_eq_false h, decide_eq_false (by omega)]
theorem less_eq {p q : Rat} (h : p < q) : decide (p.num * q.den < q.num * p.den) = true := decide_eq_true (Rat.lt_iff p q |>.mp h)
/-! ### keys -/
def Kb (n : Nat) (ps : Rw) : Prop := ∃ ks : List Int, ks.length ≤ n ∧ ∀ p ∈ ps, p.1 ∈ ks
theorem nodup_len : ∀ {l ks : List Int}, l.Nodup → (∀ x ∈ l, x ∈ ks) → l.length ≤ ks.length
  | [], _, _, _ => by simp
  | x :: r, ks, h, s => by
    have h1 := List.nodup_cons.mp h
    have := nodup_len (l := r) (ks := ks.erase x) h1.2 fun y hy => (List.mem_erase_of_ne fun e => h1.1 (by rw [← e]; exact hy)).mpr (s y (List.mem_cons_of_mem _ hy))
    rw [List.length_erase_of_mem (s x List.mem_cons_self)] at this
    have := List.length_pos_of_mem (s x List.mem_cons_self)
    rw [List.length_cons]
    omega
theorem Kb.norm {n : Nat} {ps : Rw} (h : Kb n ps) : (Q7.norm ps).length ≤ n := by
  obtain ⟨ks, hl, hk⟩ := h
  refine Nat.le_trans ?_ hl
  rw [← List.length_map (·.1)]
  refine nodup_len (List.nodup_iff_pairwise_ne.mpr ?_) fun x hx => ?_
  · rw [List.pairwise_map]
    exact (norm_nf ps).asc.imp fun h => by omega
  · obtain ⟨p, hp, rfl⟩ := List.mem_map.mp hx
    obtain ⟨q, hq, e⟩ := List.mem_map.mp (norm_sub ps p hp)
    rw [← e]
    exact hk q hq
theorem Gd.scale {D M T L k : Nat} {a : Rw} (hk : 0 < k) (h : Gd D M T L a) : Gd (D * k) (M * k) T L a := ⟨fun p hp => (h.nd p hp).scale hk, h.lo, h.hi, h.len⟩
theorem Gd.short' {D M T L n : Nat} {a : Rw} (h : Gd D M T L a) (l : a.length ≤ n) : Gd D M T n a := ⟨h.nd, h.lo, h.hi, l⟩
/-! ### three rows of the law -/
structure Gr (D M T : Nat) (a : Rw) : Prop where
  g : Gd D M T 3 a
  nf : Nf a
structure Gu (D M : Nat) : Prop where
  pos : 0 < D
  d : D < 2 ^ 450
  m : M < 2 ^ 500
theorem mul_lt_pow {a b n m k : Nat} (h1 : a < 2 ^ n) (h2 : b < 2 ^ m) (h : n + m ≤ k) : a * b < 2 ^ k := by
  refine Nat.lt_of_lt_of_le (Nat.mul_lt_mul'' h1 h2) ?_
  rw [← Nat.pow_add]
  exact pow_le' h
theorem up_pow {a n k : Nat} (h1 : a < 2 ^ n) (h : n ≤ k) : a < 2 ^ k := Nat.lt_of_lt_of_le h1 (pow_le' h)
section
variable {D M T : Nat} {a b c : Rw}
theorem Gr.q (u : Gu D M) (h : Gr D M T a) : Gq a := Gq.of h.g u.pos (up_pow u.d (by decide)) (up_pow u.m (by decide)) (by decide)
/-- a sum -/
theorem Gr.add (u : Gu D M) (h : Gr D M T a) (k : Gr D M T b) : Gd D M T 6 (a ++ b) := h.g.app k.g
theorem Gr.addn (u : Gu D M) (h : Gr D M T a) (k : Gr D M T b) : Gd D (6 * M) T 6 (norm (a ++ b)) := (h.g.app k.g).norm u.pos
theorem Gr.mul (u : Gu D M) (h : Gr D M T a) (k : Gr D M T b) : Gd (D * D) (M * M) (T + T) 9 (prod a b) := h.g.prod k.g
theorem Gr.muln (u : Gu D M) (h : Gr D M T a) (k : Gr D M T b) : Gd (D * D) (9 * (M * M)) (T + T) 9 (norm (prod a b)) := (h.g.prod k.g).norm (Nat.mul_pos u.pos u.pos)
theorem Gu.dd (u : Gu D M) : D * D < 2 ^ 900 := mul_lt_pow u.d u.d (by decide)
theorem Gu.mm (u : Gu D M) : M * M < 2 ^ 1000 := mul_lt_pow u.m u.m (by decide)
theorem Gu.m9 (u : Gu D M) : 9 * (M * M) < 2 ^ 1010 := mul_lt_pow (n := 4) (by decide) u.mm (by decide)
theorem Gu.m6 (u : Gu D M) : 6 * M < 2 ^ 510 := mul_lt_pow (n := 4) (by decide) u.m (by decide)
theorem Gr.addq (u : Gu D M) (h : Gr D M T a) (k : Gr D M T b) : Gq (a ++ b) := Gq.of (h.add u k) u.pos (up_pow u.d (by decide)) (up_pow u.m (by decide)) (by decide)
theorem Gr.addnq (u : Gu D M) (h : Gr D M T a) (k : Gr D M T b) : Gq (norm (a ++ b)) := Gq.of (h.addn u k) u.pos (up_pow u.d (by decide)) (up_pow u.m6 (by decide)) (by decide)
theorem Gr.mulq (u : Gu D M) (h : Gr D M T a) (k : Gr D M T b) : Gq (prod a b) := Gq.of (h.mul u k) (Nat.mul_pos u.pos u.pos) (up_pow u.dd (by decide)) (up_pow u.mm (by decide)) (by decide)
theorem Gr.mulnq (u : Gu D M) (h : Gr D M T a) (k : Gr D M T b) : Gq (norm (prod a b)) := Gq.of (h.muln u k) (Nat.mul_pos u.pos u.pos) (up_pow u.dd (by decide)) (up_pow u.m9 (by decide)) (by decide)
/-- the sum of a sum and a row, either way -/
theorem Gr.add3 (u : Gu D M) (h : Gr D M T a) (k : Gr D M T b) (l : Gr D M T c) : Gq (norm (a ++ b) ++ c) := Gq.of ((h.addn u k).app (l.g.mono (show M ≤ 6 * M by omega) (Nat.le_refl _) (Nat.le_refl _))) u.pos (up_pow u.d (by decide)) (up_pow u.m6 (by decide)) (by decide)
theorem Gr.add3' (u : Gu D M) (h : Gr D M T a) (k : Gr D M T b) (l : Gr D M T c) : Gq (a ++ norm (b ++ c)) := Gq.of ((h.g.mono (show M ≤ 6 * M by omega) (Nat.le_refl _) (Nat.le_refl _)).app (k.addn u l)) u.pos (up_pow u.d (by decide)) (up_pow u.m6 (by decide)) (by decide)
theorem Gu.ddd (u : Gu D M) : D * D * D < 2 ^ 1350 := mul_lt_pow u.dd u.d (by decide)
theorem Gu.mmm (u : Gu D M) : 9 * (M * M) * M < 2 ^ 1510 := mul_lt_pow u.m9 u.m (by decide)
theorem Gr.mul3 (u : Gu D M) (h : Gr D M T a) (k : Gr D M T b) (l : Gr D M T c) : Gq (prod (norm (prod a b)) c) := Gq.of ((h.muln u k).prod l.g) (Nat.mul_pos (Nat.mul_pos u.pos u.pos) u.pos) (up_pow u.ddd (by decide)) (up_pow u.mmm (by decide)) (by decide)
theorem Gr.mul3' (u : Gu D M) (h : Gr D M T a) (k : Gr D M T b) (l : Gr D M T c) : Gq (prod a (norm (prod b c))) := Gq.of (h.g.prod (k.muln u l)) (Nat.mul_pos u.pos (Nat.mul_pos u.pos u.pos)) (by rw [Nat.mul_comm]; exact up_pow u.ddd (by decide)) (by rw [Nat.mul_comm]; exact up_pow u.mmm (by decide)) (by decide)
theorem Gr.muladd (u : Gu D M) (h : Gr D M T a) (k : Gr D M T b) (l : Gr D M T c) : Gq (prod a (norm (b ++ c))) := Gq.of (h.g.prod (k.addn u l)) (Nat.mul_pos u.pos u.pos) (up_pow u.dd (by decide)) (by rw [Nat.mul_comm]; exact mul_lt_pow u.m6 u.m (by decide)) (by decide)
theorem Gr.addmul (u : Gu D M) (h : Gr D M T a) (k : Gr D M T b) (l : Gr D M T c) : Gq (prod (norm (a ++ b)) c) := Gq.of ((h.addn u k).prod l.g) (Nat.mul_pos u.pos u.pos) (up_pow u.dd (by decide)) (mul_lt_pow u.m6 u.m (by decide)) (by decide)
theorem Gr.mulsum {a' b' : Rw} (u : Gu D M) (h : Gr D M T a) (k : Gr D M T b) (h' : Gr D M T a') (k' : Gr D M T b') : Gq (norm (prod a b) ++ norm (prod a' b')) := Gq.of ((h.muln u k).app (h'.muln u k')) (Nat.mul_pos u.pos u.pos) (up_pow u.dd (by decide)) (up_pow u.m9 (by decide)) (by decide)
end
end Q7
namespace Q7
theorem ND.m1 : ND 1 2 (-1) := ⟨-1, by rfl, by decide⟩
theorem ND.p2 : ND 1 2 2 := ⟨2, by rfl, by decide⟩
theorem ND.p1 : ND 1 2 1 := ⟨1, by rfl, by decide⟩
theorem Gd.lone {n : Int} {T : Nat} {q : Rat} (hq : ND 1 2 q) (h0 : 0 ≤ n) (h1 : n ≤ T) : Gd 1 2 T 1 [(n, q)] := by
  refine ⟨?_, ?_, ?_, by simp⟩
  · intro p hp; rw [List.mem_singleton] at hp; subst hp; exact hq
  · intro p hp; rw [List.mem_singleton] at hp; subst hp; exact h0
  · intro p hp; rw [List.mem_singleton] at hp; subst hp; exact h1
theorem Gq.lone {n : Int} {q : Rat} (hq : ND 1 2 q) (h0 : 0 ≤ n) : Gq [(n, q)] := Gq.of (Gd.lone (T := n.toNat) hq h0 (by omega)) (by decide) (Nat.one_lt_two_pow (by decide)) (up_pow (n := 2) (by decide) (by decide)) (by decide)
theorem Gq.loneN {n : Int} {q : Rat} (hq : ND 1 2 q) (h0 : 0 ≤ n) : Gq (norm [(n, q)]) := Gq.of ((Gd.lone (T := n.toNat) hq h0 (by omega)).norm (by decide)) (by decide) (Nat.one_lt_two_pow (by decide)) (up_pow (n := 2) (by decide) (by decide)) (by decide)
theorem Gq.none : Gq [] := Gq.of (D := 1) (M := 0) (T := 0) (L := 0) ⟨by simp, by simp, by simp, by simp⟩ (by decide) (Nat.one_lt_two_pow (by decide)) (Nat.two_pow_pos _) (by decide)
theorem Gq.noneN : Gq (norm []) := by rw [norm_nil]; exact Gq.none
section
variable {D M T : Nat} {a b c : Rw}
theorem Gr.lone (u : Gu D M) (h : Gr D M T a) {n : Int} {q : Rat} (hq : ND 1 2 q) (h0 : 0 ≤ n) : Gq (prod a (norm [(n, q)])) := by
  have := h.g.prod ((Gd.lone (T := n.toNat) hq h0 (by omega)).norm (by decide))
  exact Gq.of this (by have := u.pos; omega) (by rw [Nat.mul_one]; exact up_pow u.d (by decide)) (mul_lt_pow (m := 2) u.m (by decide) (by decide)) (by decide)
theorem Gr.none (u : Gu D M) (h : Gr D M T a) : Gq (a ++ norm []) := by rw [norm_nil, List.append_nil]; exact h.q u
theorem prod_nil : ∀ a : Rw, prod a [] = []
  | [] => rfl
  | p :: r => by
    show ([] : Rw) ++ prod r [] = []
    rw [prod_nil r]; rfl
theorem Gr.mnone (h : Gr D M T a) : Gq (prod a (norm [])) := by rw [norm_nil, prod_nil]; exact Gq.none
theorem Gr.self (u : Gu D M) (h : Gr D M T a) : Gq (a ++ a) := h.addq u h
theorem Gr.neg (u : Gu D M) (h : Gr D M T a) : Gq (a ++ norm (prod a (norm [(0, -1)]))) := by
  have h1 := h.g.prod ((Gd.lone (n := 0) (T := T) ND.m1 (by decide) (by omega)).norm (by decide))
  have h2 := h1.norm (by have := u.pos; omega)
  rw [Nat.mul_one] at h2
  have h3 := (h.g.mono (show M ≤ 3 * 1 * (M * (1 * 2)) by omega) (show T ≤ T + T by omega) (Nat.le_refl _)).app h2
  exact Gq.of h3 u.pos (up_pow u.d (by decide)) (by rw [show 3 * 1 * (M * (1 * 2)) = 6 * M by omega]; exact up_pow u.m6 (by decide)) (by decide)
end
end Q7
namespace Q7
def eps : Rat := ⟨1, 1000000000, by decide, by decide⟩
theorem eps_pos : (0 : Rat) < eps := by decide
theorem less_eps (p : Rat) : p < p + eps := by
  have := eps_pos
  grind
theorem Gq.tot {a : Rw} (h : Gq a) : B 3000 (tot a) := by
  have := h.psum a.length
  rwa [show (a.map (·.2)).take a.length = a.map (·.2) by rw [← List.length_map (·.2), List.take_length]] at this
theorem tot_add (a b : Rw) : tot (norm (a ++ b)) = tot a + tot b := by rw [tot_norm, tot_app]
theorem tot_mul (a b : Rw) : tot (norm (prod a b)) = tot a * tot b := by rw [tot_norm, tot_prod]
theorem below (p : Rat) : 0 + -p + p = 0 := by grind
theorem over_back (a b : Rw) (h : tot b ≠ 0) : tot (norm (prod a b)) / tot b = tot a := by
  rw [tot_mul]
  exact Rat.mul_div_cancel h
end Q7
namespace Q7
theorem Gr.totB {D M T : Nat} {a : Rw} (u : Gu D M) (h : Gr D M T a) : B 510 (tot a) := by
  have := ND.sum u.pos (qs := a.map (·.2)) (M := M) fun q hq => by
    obtain ⟨p, hp, rfl⟩ := List.mem_map.mp hq
    exact h.g.nd p hp
  refine (this.mono (M' := 3 * M) ?_).B u.pos (up_pow u.d (by decide)) (mul_lt_pow (n := 2) (by decide) u.m (by decide))
  rw [List.length_map]
  exact Nat.mul_le_mul h.g.len (Nat.le_refl _)
theorem Gr.totE {D M T : Nat} {a : Rw} (u : Gu D M) (h : Gr D M T a) : B 3000 (tot a + eps) := by
  have : B 40 eps := ⟨by decide, by decide⟩
  exact (B.add (h.totB u) this).mono (by decide)
end Q7
namespace Q7
theorem Gr.cut {D M T : Nat} {a : Rw} (h : Gr D M T a) (t : Int) : Gr D M T (upTo t a) := ⟨h.g.sub List.filter_sublist, nf_upTo h.nf⟩
theorem Gr.mvd {D M T : Nat} {a : Rw} (h : Gr D M T a) {t : Int} (h0 : 0 ≤ t) : Gr D M (T + t.toNat) (mv t a) := ⟨h.g.mv h0 (by omega), nf_mv h.nf⟩
theorem Gr.up {D M T U : Nat} {a : Rw} (h : Gr D M T a) (l : T ≤ U) : Gr D M U a := ⟨h.g.mono (Nat.le_refl _) l (Nat.le_refl _), h.nf⟩
theorem Gq.mvn {D M T L : Nat} {a : Rw} (h : Gd D M T L a) (hD : 0 < D) (h1 : D < 2 ^ 2900) (h2 : M < 2 ^ 2900) (h3 : L ≤ 63) {t : Int} (h0 : 0 ≤ t) : Gq (mv t a) := Gq.of (h.mv (N := t.toNat) h0 (by omega)) hD h1 h2 h3
theorem Gr.mulmv {D M T : Nat} {a b : Rw} (u : Gu D M) (h : Gr D M T a) (k : Gr D M T b) {t : Int} (h0 : 0 ≤ t) : Gq (mv t (norm (prod a b))) := Gq.mvn (h.muln u k) (Nat.mul_pos u.pos u.pos) (up_pow u.dd (by decide)) (up_pow u.m9 (by decide)) (by decide) h0
theorem ncut {a : Rw} (h : Nf a) (t : Int) : norm (upTo t a) = upTo t a := norm_self (nf_upTo h)
theorem nmv {a : Rw} (h : Nf a) (t : Int) : norm (mv t a) = mv t a := norm_self (nf_mv h)
theorem cut_mul' (t : Int) {a b : Rw} (ha : ∀ p ∈ a, 0 ≤ p.1) (hb : ∀ p ∈ b, 0 ≤ p.1) (na : Nf a) (nb : Nf b) : norm (upTo t (norm (prod a b))) = norm (upTo t (norm (prod (upTo t a) (upTo t b)))) := by
  have := cut_mul t ha hb
  rwa [ncut na, ncut nb] at this
theorem cut_add' (t : Int) {a b : Rw} (na : Nf a) (nb : Nf b) : norm (upTo t (norm (a ++ b))) = norm (upTo t a ++ upTo t b) := by
  have := cut_add t a b
  rwa [ncut na, ncut nb] at this
theorem mv_mul' (t : Int) {a : Rw} (b : Rw) (na : Nf a) : norm (mv t (norm (prod a b))) = norm (prod (mv t a) b) := by
  have := mv_mul t a b
  rwa [nmv na] at this
theorem mv_len (t : Int) (a : Rw) : (mv t a).length = a.length := by unfold mv; rw [List.length_map]
theorem Gr.lo {D M T : Nat} {a : Rw} (h : Gr D M T a) : ∀ p ∈ a, 0 ≤ p.1 := h.g.lo
end Q7
set_option maxRecDepth 100000
set_option maxHeartbeats 4000000
namespace Q7
open PySem PySem.Spec PyProof.Rows L2
/-! ### defs that may ask for a repr: entered where no repr runs -/
section
variable {P : Program} {w : World} {K : PySem.W.Frag} {mg : Str → Option Value} {base : Heap} {fd : FuncData} {f : Addr} {sp : Sp}
structure FnG (P : Program) (w : World) (K : PySem.W.Frag) (mg : Str → Option Value) (base : Heap) (lev : Nat) (f : Addr) (fd : FuncData) (params : List Str) (sp : Sp) : Prop where
  many : ∀ as H Q E, sp as H Q E → as.length = params.length
  goes : ∀ (Ar : Around) (envs : List Env) (st : Shared) (H : Hp) (got : Args) (raw : List Value) (as : List V) (Q : VK) (E : XK), Ar.guards = some [] → Room lev Ar → sp as H Q E →
    Vals as raw → BindsTo st fd got (params.zip raw) → Env0 P w K mg base Ar envs st H → codeAny (model P w) Ar (.call (.ref f) got) (CR CX0 envs P w H st Q E) st
theorem FnG.mono {j k : Nat} {ps : List Str} (F : FnG P w K mg base j f fd ps sp) (le : j ≤ k) : FnG P w K mg base k f fd ps sp :=
  ⟨F.many, fun Ar envs st H got raw as Q E g room => F.goes Ar envs st H got raw as Q E g (room.mono le)⟩
/-- a def, from its body, where no repr runs -/
theorem okG {k : Nat} {x qual : Str} {params : Arguments} {body : List Stmt} {scope : Scope} {dvs : List V} {kws : List (Str × V)} {N ps : List Str} (F : FunD K x qual params body scope dvs kws f fd) (S : FnScope N ps scope)
    (many : ∀ as H Q E, sp as H Q E → as.length = ps.length)
    (inner : ∀ (cdv : Value) (Ar : Around) (envs : List Env) (st : Shared) (H : Hp) (as : List V) (Q : VK) (E : XK), Ar.guards = some [] → Room k (Ar.deeper (envOfC qual scope st.heap.objs.size f cdv)) → sp as H Q E →
      ∃ rd, PSs (cxOf CX0 P w K mg base N qual scope f cdv Ar envs st H E) body rd ∧ rd { nx := fun _ H1 => Q .non H1, rt := Q } (start N as) H) : FnG P w K mg base (k + 1) f fd ps sp := by
  obtain ⟨_, _, _, _, _, _, _, cdv, _, _, rfl, look, code, _, _⟩ := F.ex
  refine ⟨many, fun Ar envs st H got raw as Q E g room prom vals bnd ev => ?_⟩
  have held : ∀ b o, base.get? b = some o → st.heap.get? b = some o := fun b o q => (ev.bs b o q).1
  have KI := ev.mod.kin.keeps held
  have noLim := ev.mod.nolimit.keeps held
  refine codeAny_call_function room.depth (KI _ _ look) rfl S.co S.gen rfl (PySem.W.codeRec_of KI code) (bnd _ _ _ _ ?_)
  refine wpAny_newFunctionEnv_cells S.kind (fun ⟨nm, va⟩ mem => ?_) fun en eq st1 lay => ?_
  · cases S.par nm (List.of_mem_zip mem).1 with
    | inl lo => exact .inl lo
    | inr ce => exact .inr ⟨ce, PySem.W.cellsFrom_some _ _ _ (.inl ce)⟩
  subst eq
  refine ⟨noLim.keeps lay.toInCall.keep, codeAny_func ?_⟩
  obtain ⟨rd, hrd, hq⟩ := inner cdv Ar envs st H as Q E g (room.deeper _) prom
  refine wpAny_mono (hrd.run [] st1 (start N as) H _ (inv_start S room.hd ev (many _ _ _ _ prom) vals lay) hq) (fun fl st2 res => ?_) fun _ _ q => q
  cases fl with
  | ret u =>
    obtain ⟨va, _, H1, J, rel, q⟩ := res
    exact ⟨va, H1, J.os, J.bare, J.base, J.hok, rel, q⟩
  | next =>
    obtain ⟨_, H1, J, q⟩ := res
    exact ⟨V.non, H1, J.os, J.bare, J.base, J.hok, rfl, q⟩
  | brk => exact res.elim fun _ z => z.elim fun _ z => z.2.elim
  | cont => exact res.elim fun _ z => z.elim fun _ z => z.2.elim
end
section
variable {X : Cx} {k : Nat} {f : Addr} {fd : FuncData} {ps : List Str} {sp : Sp} {x : Str} {e : Expr} {es : List Expr} {t : TA} {p pos : Pos}
theorem run_fnG {pins : List (Addr × Obj)} {σ : L2.St} {H : Hp} {s : Shared} {Q : VK} {raw : List Value} {as : List V} (F : FnG X.prog X.w X.K X.mg X.base k f fd ps sp) (room : Room k X.A) (g : X.A.guards = some []) (bnd : Binds X.K fd ps [])
    (I : Inv X pins σ H s) (vals : Vals as raw) (prom : sp as H Q E0) : wpAny (model X.prog X.w) X.A (call (.ref f) raw) (EP X pins σ Q) X.xe s := by
  have ln : raw.length = ps.length := by rw [← vals.length]; exact F.many _ _ _ _ prom
  have bn : BindsTo s fd ⟨raw, []⟩ (ps.zip raw) := by
    have := bnd s raw I.kIn (by simpa using ln)
    simpa using this
  refine wpAny_call (codeAny_mono (F.goes X.A X.stack s H ⟨raw, []⟩ raw as Q E0 g room prom vals bn I.env0) fun res s' hq => ?_)
  match res, hq with
  | .error _, q => exact q.elim
  | .ok (.ret _), q => exact I.after q
  | .ok .next, q => exact False.elim q
  | .ok .brk, q => exact False.elim q
  | .ok .cont, q => exact False.elim q
theorem pe_callG (F : FnG X.prog X.w X.K X.mg X.base k f fd ps sp) (room : Room k X.A) (g : X.A.guards = some []) (gl : Gl X x) (here : X.mg x = some (.ref f)) (kp : PySem.W.keepIn X.K (.ref f) = true) (bnd : Binds X.K fd ps []) (args : PA X (e :: es) t)
    (nd : (x == ("__debug__" : Str)) = false := by decide) (stars : starEach (e :: es) X.env = (false, eval e X.env) :: starEach es X.env := by rfl) (plain : (backTo pos (starEach es X.env)).any (·.1) = false := by rfl) :
    PE X (.Call (.Name x p) (e :: es) [] pos) (tCall sp [] E0 t) := by
  constructor
  intro pins s σ H Q I h
  refine wpAny_Call_Name_kw (ld_glob I gl here (PySem.W.callWith_K (h₀ := X.base) I.ok.mod.kin kp (thn (args.run pos pins s σ H _ I h) fun us s1 z => ?_) stars plain) nd)
  obtain ⟨vs, H1, I1, r, q⟩ := z
  exact ⟨I1.kIn, run_fnG F room g bnd I1 r (by rwa [List.append_nil] at q)⟩
end
end Q7
set_option maxRecDepth 100000
set_option maxHeartbeats 4000000
namespace Q7
open PySem PySem.Spec PyProof.Rows L2
/-! ### the law's own call, by such a promise -/
abbrev obS (raw : List Value) : Obj := { cls := .type "list", data := .seq raw.toArray }
theorem enterG {P : Program} {w : World} {K : PySem.W.Frag} {mg mb : Str → Option Value} {lev : Nat} {fa a : Addr} {fd : FuncData} {x : Str} {sp : Sp} {st : Shared} {raw : List Value} {ns : List Int}
    (KI : K.In st.heap) (glob : st.heap.Ns mainGlobals mg) (bl : st.heap.Ns builtinsNs mb) (boot : ∀ n : Str, n ≠ "__name__" → mb n = bootBuiltins n) (free : st.heap.NoLimit) (gens : st.gens = #[])
    (here : st.heap.get? a = some (obS raw)) (nums : IntsAre raw ns) (short : ns.length ≤ sizeLine) (room : Room lev callerA) (F : ∀ bs : Heap, K.In bs → bs.Ns mainGlobals mg → FnG P w K mg bs lev fa fd [x] sp)
    (bnd : ∀ (s : Shared) (u : Value), BindsTo s fd ⟨[u], []⟩ [(x, u)]) (prom : ∀ H : Hp, SqL K H a (ns.map V.int) → sp [.ref a] H (fun v _ => v = .bl true) fun _ _ _ => False) :
    codeAny (model P w) callerA (.call (.ref fa) ⟨[.ref a], []⟩) (fun r s' => r = .ok (.ret (.bool true)) ∧ OldK st.heap s'.heap ∧ s'.os = st.os ∧ AllBare s'.gens) st := by
  have vals := vals_ints nums
  have hlen : (ns.map V.int).length ≤ sizeLine := by rwa [List.length_map]
  have pickH : ∃ H : Hp, (∀ c u, H c = some u → c = a ∧ u = .frz (obS raw) (.lst (ns.map V.int)) ∧ K.lookup a = none) ∧ SqL K H a (ns.map V.int) := by
    by_cases own : K.lookup a = none
    · refine ⟨fun c => if c = a then some (.frz (obS raw) (.lst (ns.map V.int))) else none, fun c u q => ?_, .inl (.inr ⟨obS raw, if_pos rfl⟩)⟩
      by_cases ca : c = a
      · exact ⟨ca, Option.some.inj (q.symm.trans (if_pos ca)), own⟩
      · exact absurd (q.symm.trans (if_neg ca)) (by simp)
    · refine ⟨fun _ => none, fun c u q => by simp at q, ?_⟩
      obtain ⟨ob, hob⟩ := Option.ne_none_iff_exists'.mp own
      have : ob = obS raw := Option.some.inj ((KI a ob hob).symm.trans here)
      subst this
      exact .inr ⟨_, raw.toArray, _, hob, rfl, rfl, rfl, by rw [List.size_toArray, nums.length]; exact short, by simpa using vals⟩
  obtain ⟨H, only, seq⟩ := pickH
  have none_of : ∀ {c : Addr} {o : Obj}, st.heap.get? c = some o → (∀ u, o.data ≠ .seq raw.toArray u) → H c = none := fun {c o} q d => by
    cases hc : H c with
    | none => rfl
    | some u =>
      obtain ⟨rfl, _⟩ := only c u hc
      rw [here] at q
      cases q
      exact absurd rfl (d _)
  have nsOf : ∀ {c : Addr} {m : Str → Option Value}, st.heap.Ns c m → (hidT st.heap H).Ns c m := fun {c m} q => by
    obtain ⟨o, es, ep, q1, q2, q3⟩ := q
    exact ⟨o, es, ep, hidT_get q1 (none_of q1 fun u z => by rw [q2] at z; cases z), q2, q3⟩
  have KB : K.In (hidT st.heap H) := fun c o q => hidT_get (KI c o q) (by
    cases hc : H c with
    | none => rfl
    | some u =>
      obtain ⟨rfl, _, z⟩ := only c u hc
      rw [z] at q
      cases q)
  have hok : HOk P w H st.heap := fun c u q => by
    obtain ⟨rfl, rfl, _⟩ := only c u q
    exact ⟨here, hlen, raw, _, vals, here⟩
  obtain ⟨mc, fr1, fr2⟩ := free
  have ev : Env0 P w K mg (hidT st.heap H) callerA [] st H := {
    frames := rfl
    mod := ⟨KB, nsOf glob, ⟨mb, nsOf bl, boot⟩, mc, nsOf fr1, fr2⟩
    bs := fun c o q => of_hidT q
    bsz := Nat.le_of_eq (hidT_size st.heap H)
    funs := trivial
    frf := fun c q => nomatch q
    hok := hok
    bare := .of_eq gens }
  refine codeAny_mono ((F _ KB (nsOf glob)).goes callerA [] st H ⟨[.ref a], []⟩ [.ref a] [.ref a] _ _ rfl room (prom H seq) (.cons rfl .nil) (bnd st (.ref a)) ev) fun res s' q => ?_
  match res, q with
  | .error _, q => exact q.elim
  | .ok .next, q => exact False.elim q
  | .ok .brk, q => exact False.elim q
  | .ok .cont, q => exact False.elim q
  | .ok (.ret u), q =>
    obtain ⟨v, H1, os, bare, un, hok1, rel, rfl⟩ := q
    cases rel
    refine ⟨rfl, OldK.of_keep fun c o look => ?_, os, bare⟩
    cases hc : H c with
    | none => exact un.keep c o look hc (fun z => nomatch z) (by simp)
    | some u =>
      obtain ⟨rfl, rfl, _⟩ := only c u hc
      obtain ⟨l1, _⟩ := hok1 c _ (un.frzs c _ _ hc)
      rw [here] at look
      cases look
      exact l1
theorem walk_ofG {l : PySem.W.OpenLaw} {most lev : Nat} {q : Program} {loose : List Str} {XP : (Str → Option Value) → Heap → Prop} {YP : World → Heap → Prop} {d : DefRec} {x : Str} (hm : l.most = some most) (line : most ≤ sizeLine) (nodef : d.params.defaults = []) (room : Room lev callerA)
    (F : ∀ (w : World) (mg : Str → Option Value) (fa : Addr) (h : Heap), YP w h → h.Ns mainGlobals mg → mg d.name = some (.ref fa) → ∃ (K : PySem.W.Frag) (fd : FuncData) (sp : Sp), K.In h ∧ (∀ (s : Shared) (u : Value), BindsTo s fd ⟨[u], []⟩ [(x, u)]) ∧
      (∀ (H : Hp) (a : Addr) (ns : List Int), ns.length ≤ most → SqL K H a (ns.map V.int) → sp [.ref a] H (fun v _ => v = .bl true) fun _ _ _ => False) ∧ ∀ bs : Heap, K.In bs → bs.Ns mainGlobals mg → FnG l.prog w K mg bs lev fa fd [x] sp) :
    PySem.W.WalkO q loose XP YP l.row.toRowW d [] (fun f vs => PySem.call f vs) := by
  refine Att.attach_call hm nodef fun w _ st mg mb fa _ _ _ _ a raw ns gr Y _ _ _ named here nums few gens => ?_
  obtain ⟨K, fd, sp, KI, bnd, prom, FG⟩ := F w mg fa _ Y gr.T.g named
  exact enterG KI gr.T.g gr.T.b gr.T.builtins gr.T.nolimit gens here nums (Nat.le_trans few line) room FG bnd fun H seq => prom H a ns few seq
/-- an empty tuple of the written part -/
def tNil0 (ad : PySem.W.Frag → Addr) : Tst := fun K => match K.lookup (ad K) with
  | some ⟨.type c, _, .seq its _, _⟩ => decide (c = "tuple") && its.toList.isEmpty
  | _ => false
theorem tNil0_ok {ad : PySem.W.Frag → Addr} {K : PySem.W.Frag} (c : tNil0 ad K = true) (H : Hp) : SqT K H (ad K) [] := by
  unfold tNil0 at c
  cases e : K.lookup (ad K) with
  | none => rw [e] at c; cases c
  | some o =>
    rw [e] at c
    obtain ⟨oc, od, dt, sl⟩ := o
    cases oc with
    | type t =>
      cases dt with
      | seq its n =>
        obtain ⟨h1, h2⟩ := He.ba c
        have e1 := of_decide_eq_true h1
        subst e1
        obtain ⟨l⟩ := its
        cases l with
        | nil => exact .inr ⟨_, _, _, e, rfl, rfl, by simp, .nil⟩
        | cons _ _ => cases h2
      | _ => cases c
    | _ => cases dt <;> cases c
/-! ### repr of data -/
def rRepr (K : PySem.W.Frag) : List V → Hp → VK → Prop := fun as H Q => ∃ v d, as = [v] ∧ Dp K H v d ∧ d.showable = true ∧ d.hasDict = false ∧ d.depth ≤ 40 ∧ d.shown.length + 64 ≤ sizeLine ∧ (∃ p, v = .ref p) ∧ Q (.str d.shown) H
theorem call_reprG {X : Cx} (g : X.A.guards = some []) (hu : X.A.units + 70 < cLine) : CallR X (.builtin "repr") (rRepr X.K) := by
  intro pins s σ H as us Q I r h
  obtain ⟨v, d, rfl, dp, sh, nd, dep, sz, ⟨p, rfl⟩, q⟩ := h
  obtain ⟨u, rfl, rel⟩ := vals1 r
  cases rel
  obtain ⟨bs, rd⟩ := Dp.reads I d _ _ dp rfl
  refine repr_of_reads' rd sh (fun z => by rw [nd] at z; cases z) g (by omega) (fun _ _ z => z) (fun h' u tk kp => ?_) (by omega)
  exact ⟨.str _, H, I.kept (t' := tk) kp, ⟨_, rfl⟩, q⟩
end Q7
set_option maxRecDepth 100000
set_option maxHeartbeats 4000000
namespace Q7
open PySem PySem.Spec PyProof.Rows L2
/-! ### the texts of rows are short -/
theorem log_of {x : Int} {n : Nat} (h : x.natAbs < 2 ^ n) (hn : 0 < n) : x.natAbs.log2 < n := PySem.Flt.log2_lt_of hn h
def ShI (x : Int) : Prop := x.natAbs < 2 ^ 1900
theorem shI_log {x : Int} (h : ShI x) : x.natAbs.log2 < 1920 := Nat.lt_of_lt_of_le (log_of h (by decide)) (by decide)
theorem shI_text {x : Int} (h : ShI x) : (Str.ofString (toString x)).length ≤ 1921 := PyProof.Rows.int_text_len_1921 (shI_log h)
def ShP (p : Int × Rat) : Prop := ShI p.1 ∧ ShI p.2.num ∧ ShI p.2.den
theorem show_pr {p : Int × Rat} (h : ShP p) : (pr p).showable = true := by
  simp only [pr, fr, PyData.showable, PyData.showableAll, Bool.and_true, Bool.and_eq_true, decide_eq_true_eq]
  exact ⟨shI_log h.1, shI_log h.2.1, shI_log h.2.2⟩
theorem leaf_int {x : Int} (h : ShI x) : PyData.leavesShort 1921 (.int x) = true := by
  unfold PyData.leavesShort
  exact decide_eq_true (shI_text h)
theorem leaf_pr {p : Int × Rat} (h : ShP p) : (pr p).leavesShort 1921 = true := by
  have h1 := leaf_int h.1
  have h2 := leaf_int h.2.1
  have h3 := leaf_int h.2.2
  simp only [pr, fr, PyData.leavesShort, PyData.leavesShortAll, Bool.and_true, Bool.and_eq_true] at *
  exact ⟨h1, h2, h3⟩
theorem show_prs : ∀ {a : Rw}, (∀ p ∈ a, ShP p) → PyData.showableAll (a.map pr) = true
  | [], _ => by simp [PyData.showableAll]
  | p :: a, h => by
    simp only [List.map_cons, PyData.showableAll, show_pr (h p List.mem_cons_self), show_prs (a := a) fun q hq => h q (List.mem_cons_of_mem _ hq), Bool.and_self]
theorem leaf_prs : ∀ {a : Rw}, (∀ p ∈ a, ShP p) → PyData.leavesShortAll 1921 (a.map pr) = true
  | [], _ => by simp [PyData.leavesShortAll]
  | p :: a, h => by
    simp only [List.map_cons, PyData.leavesShortAll, leaf_pr (h p List.mem_cons_self), leaf_prs (a := a) fun q hq => h q (List.mem_cons_of_mem _ hq), Bool.and_self]
theorem bulk_prs : ∀ a : Rw, PyData.bulkAll (a.map pr) = 5 * a.length
  | [] => by simp [PyData.bulkAll]
  | p :: a => by
    have := bulk_prs a
    simp only [List.map_cons, PyData.bulkAll, this, List.length_cons, pr, fr, PyData.bulk]
    omega
abbrev dpr (a : Rw) : PyData := .list (a.map pr)
theorem dpr_show {a : Rw} (h : ∀ p ∈ a, ShP p) : (dpr a).showable = true := by
  simp only [dpr, PyData.showable]
  exact show_prs h
theorem dpr_dict (a : Rw) : (dpr a).hasDict = false := PyData.hasDict_of_canLay _ (by simp only [dpr, PyData.canLay0]; exact lay_prs a)
theorem dpr_dep (a : Rw) : (dpr a).depth ≤ 40 := by
  have := dep_prs a
  simp only [dpr, PyData.depth]
  omega
theorem dpr_len {a : Rw} (h : ∀ p ∈ a, ShP p) (hl : a.length ≤ 63) : (dpr a).shown.length + 64 ≤ sizeLine := by
  have h1 := PyData.shown_le_bulk 1921 (by decide) (dpr a) (by simp only [dpr, PyData.leavesShort]; exact leaf_prs h)
  have h2 : (dpr a).bulk = 5 * a.length := by simp only [dpr, PyData.bulk]; exact bulk_prs a
  rw [h2] at h1
  have h3 : (1921 + 2) * (5 * 63) + 1921 + 64 ≤ sizeLine := by decide
  have h4 : (1921 + 2) * (5 * a.length) ≤ (1921 + 2) * (5 * 63) := Nat.mul_le_mul (Nat.le_refl _) (by omega)
  omega
theorem Gr.sh {D M : Nat} {a : Rw} (u : Gu D M) (h : Gr D M (10 ^ 58) a) : ∀ p ∈ a, ShP p := fun p hp => by
  have hb : B 510 p.2 := (h.g.nd p hp).B u.pos (up_pow u.d (by decide)) (up_pow u.m (by decide))
  refine ⟨?_, ?_, ?_⟩
  · have h1 := h.g.lo p hp
    have h2 := h.g.hi p hp
    have h3 : (10 ^ 58 : Nat) < 2 ^ 200 := by decide
    exact up_pow (n := 200) (show p.1.natAbs < 2 ^ 200 by omega) (by decide)
  · exact up_pow hb.1 (by decide)
  · unfold ShI
    rw [Int.natAbs_natCast]
    exact up_pow hb.2 (by decide)
/-! ### their signs -/
theorem okS_of (s : String) : PyData.strOk (Str.ofString s) = true := by
  rw [Str.ofString_eq_toList]
  unfold PyData.strOk
  rw [List.all_toArray, List.all_eq_true]
  intro n hn
  obtain ⟨c, _, rfl⟩ := List.mem_map.mp hn
  have := c.valid
  refine decide_eq_true ?_
  show c.val.toNat < 1114112
  rcases this with h | h
  · have : c.val.toNat < 55296 := h
    omega
  · exact h.2
theorem okS_app {a b : Str} (ha : PyData.strOk a = true) (hb : PyData.strOk b = true) : PyData.strOk (a ++ b) = true := by
  unfold PyData.strOk at *
  show (a.cps ++ b.cps).all _ = true
  rw [Array.all_append, ha, hb]
  rfl
theorem okS_from : ∀ (ts : List Str) (k : Nat) (acc : Str), PyData.strOk acc = true → (∀ t ∈ ts, PyData.strOk t = true) → PyData.strOk (textFrom k acc ts) = true
  | [], _, _, h, _ => h
  | t :: ts, k, acc, h, hs => okS_from ts (k + 1) _ (okS_app (okS_app h (okS_of _)) (hs t List.mem_cons_self)) fun q hq => hs q (List.mem_cons_of_mem _ hq)
theorem okS_join : ∀ ts : List Str, (∀ t ∈ ts, PyData.strOk t = true) → PyData.strOk (Str.join ", " ts) = true
  | [], _ => by simp [Str.join, PyData.strOk, Str.empty]
  | [x], h => h x List.mem_cons_self
  | x :: y :: r, h => okS_app (okS_app (h x List.mem_cons_self) (okS_of _)) (okS_join (y :: r) fun t ht => h t (List.mem_cons_of_mem _ ht))
theorem okS_int (i : Int) : PyData.strOk (PyData.shown (.int i)) = true := okS_of _
theorem okS_tup {ds : List PyData} (h : ∀ t ∈ PyData.shownAll ds, PyData.strOk t = true) : PyData.strOk (PyData.shown (.tuple ds)) = true := by
  unfold PyData.shown
  exact okS_app (okS_app (okS_of _) (okS_join _ h)) (okS_of _)
theorem okS_pr (p : Int × Rat) : PyData.strOk (PyData.shown (pr p)) = true := by
  refine okS_tup fun t ht => ?_
  simp only [PyData.shownAll, List.mem_cons, List.not_mem_nil, or_false] at ht
  rcases ht with rfl | rfl
  · exact okS_int _
  · refine okS_tup fun t ht => ?_
    simp only [PyData.shownAll, List.mem_cons, List.not_mem_nil, or_false] at ht
    rcases ht with rfl | rfl
    · exact okS_int _
    · exact okS_int _
theorem okS_all : ∀ a : Rw, ∀ t ∈ PyData.shownAll (a.map pr), PyData.strOk t = true
  | [], t, h => by simp [PyData.shownAll] at h
  | p :: a, t, h => by
    simp only [List.map_cons, PyData.shownAll, List.mem_cons] at h
    rcases h with rfl | h
    · exact okS_pr p
    · exact okS_all a t h
theorem okS_dpr (a : Rw) : PyData.strOk (dpr a).shown = true := by
  unfold dpr PyData.shown listText
  exact okS_app (okS_from _ _ _ (okS_of _) (okS_all a)) (okS_of _)
/-- a normal row, brought to common bounds -/
theorem Gr.of {D M k E : Nat} {ps : Rw} (g : Gd D M (10 ^ 58) 6 ps) (kb : Kb 3 ps) (hD : 0 < D) (hM : M < 2 ^ 180) (hk : 0 < k) (hk2 : k < 2 ^ 280) (e : D * k = E) : Gr E (2 ^ 470) (10 ^ 58) (norm ps) := by
  subst e
  have h := ((g.norm hD).short' kb.norm).scale hk
  refine ⟨h.mono ?_ (Nat.le_refl _) (Nat.le_refl _), norm_nf ps⟩
  have h1 : 6 * M < 2 ^ 183 := mul_lt_pow (n := 3) (by decide) hM (by decide)
  exact Nat.le_of_lt (mul_lt_pow h1 hk2 (by decide))
theorem Gu.of {D1 D2 D3 : Nat} (h1 : 0 < D1) (h2 : 0 < D2) (h3 : 0 < D3) (l1 : D1 < 2 ^ 140) (l2 : D2 < 2 ^ 140) (l3 : D3 < 2 ^ 140) : Gu (D1 * D2 * D3) (2 ^ 470) :=
  ⟨Nat.mul_pos (Nat.mul_pos h1 h2) h3, mul_lt_pow (mul_lt_pow (k := 280) l1 l2 (by decide)) l3 (by decide), Nat.pow_lt_pow_right (by decide) (by decide)⟩
end Q7
set_option maxRecDepth 100000
set_option maxHeartbeats 4000000
namespace Q7
open PySem PySem.Spec PyProof.Rows L2
/-! ### calls by names alone -/
section
variable {X : Cx} {CX : CXT} {k : Nat} {f : Addr} {fd : FuncData} {ps ks : List Str} {sp : Sp} {E : XK} {x : Str} {p pos : Pos} {kws : List Keyword} {tk : TA} {g : List Value → List Value → List Value} {gV : List V → List V → List V}
theorem pe_callK0 (F : FnOk X.prog X.w X.K X.mg X.base CX k f fd ps sp) (room : Room k X.A) (gl : Gl X x) (here : X.mg x = some (.ref f)) (kp : PySem.W.keepIn X.K (.ref f) = true) (bnd : KBn X.K fd ps 0 ks g gV) (pass : Passes CX X E) (args : PK X kws tk)
    (named : (backToKw pos (keywordEach kws X.env)).all (·.1.isSome) = true := by rfl) (names : (backToKw pos (keywordEach kws X.env)).filterMap (·.1) = ks := by rfl) (nd : (x == ("__debug__" : Str)) = false := by decide)
    (plain : ((backTo pos (starEach [] X.env)).any (·.1) || (backToKw pos (keywordEach kws X.env)).any (·.1.isNone)) = false := by rfl) : PE X (.Call (.Name x p) [] kws pos) (tCallN 0 ks.length sp gV E tNil tk) := by
  constructor
  intro pins s σ H Q I h
  refine wpAny_Call_Name_kw (ld_glob I gl here (PySem.W.callWith_KW0 (h₀ := X.base) I.ok.mod.kin kp named (thn (args.run pos pins s σ H _ I h) fun ws s2 z => ?_) plain) nd)
  obtain ⟨zs, H2, I2, rz, l1, l2, q⟩ := z
  refine ⟨I2.kIn, ?_⟩
  rw [names]
  exact run_fnN (us := []) (vs := []) F room bnd pass I2 .nil rz rfl l2 q
end
section
variable {K : PySem.W.Frag} {x qual : Str} {params : Arguments} {body : List Stmt} {scope : Scope} {f : Addr} {fd : FuncData} {ps : List Str}
/-- names' places where no default stands -/
theorem kbP (F : FunD K x qual params body scope [] [] f fd) (n : Nat) (ks : List Str) (g : {α : Type} → List α → List α → List α) (rel : ∀ {vs zs : List V} {us ws : List Value}, Vals vs us → Vals zs ws → Vals (g vs zs) (g us ws))
    (h : ∀ (kV doc pm : Value) (an : Option Addr) (cdv ct : Value) (us ws : List Value), us.length = n → ws.length = ks.length → bindArgs (PySem.W.fnOf x qual params body scope .none kV doc pm an cdv ct) ⟨us, ks.zip ws⟩ = pure (ps.zip (g us ws))) :
    KBn K fd ps n ks (fun us ws => g us ws) (fun vs zs => g vs zs) := by
  obtain ⟨_, _, dV, kV, doc, pm, an, cdv, ct, _, rfl, _, _, hD, _⟩ := F.ex
  rcases hD with ⟨_, rfl⟩ | ⟨ne, _⟩
  · exact ⟨fun s us ws _ l1 l2 => .of_eq (h kV doc pm an cdv ct us ws l1 l2), rel⟩
  · exact absurd rfl ne
/-- (b = .., a = ..) of two parameters a, b -/
def swap2 {α : Type} (_ : List α) (ws : List α) : List α := match ws with
  | [a, b] => [b, a]
  | ws => ws
theorem swap2_rel {vs zs : List V} {us ws : List Value} (_ : Vals vs us) (h : Vals zs ws) : Vals (swap2 vs zs) (swap2 us ws) := by
  cases h with
  | nil => exact .nil
  | cons r1 h =>
    cases h with
    | nil => exact .cons r1 .nil
    | cons r2 h =>
      cases h with
      | nil => exact .cons r2 (.cons r1 .nil)
      | cons r3 h => exact .cons r1 (.cons r2 (.cons r3 h))
def swap3 {α : Type} (_ _ : List α) (ws : List α) : List α := match ws with
  | [a, b] => [b, a]
  | ws => ws
theorem swap3_rel {vs ds zs : List V} {us its ws : List Value} (h1 : Vals vs us) (_ : Vals ds its) (h : Vals zs ws) : Vals (swap3 vs ds zs) (swap3 us its ws) := swap2_rel h1 h
def only2 {α : Type} (_ : List α) (ws : List α) : List α := ws
end
/-! ### repr of any data, dicts of whole numbers too -/
def kvI (ns : List (Int × Int)) : List (Key × V) := ns.map fun q => (Sum.inl q.1, V.int q.2)
def dcI (ns : List (Int × Int)) : PyData := .dict (ns.map fun q => (.int q.1, .int q.2))
theorem readsI {h : Heap} {knd : KeyKind prog w Key} (kn : ∀ k v, knd.is k v = keyIs k v) : ∀ (ns : List (Int × Int)) {vs : List (Key × Value)} {es : List DictEntry}, KV (kvI ns) vs → Pairs knd es vs →
    ReadsAll h (es.map (·.key)) (ns.map fun q => PyData.int q.1) [] ∧ ReadsAll h (es.map (·.val)) (ns.map fun q => PyData.int q.2) []
  | [], _, _, r, p => by
    cases r
    cases p
    exact ⟨.nil, .nil⟩
  | q :: ns, _, _, r, p => by
    cases r with
    | cons r1 r2 =>
      cases p with
      | cons p1 p2 p3 =>
        obtain ⟨e1, t2, e2⟩ := r1
        obtain ⟨i1, i2⟩ := readsI kn ns r2 p3
        rw [kn, ← e1] at p1
        rcases keyIs_shape p1 with ⟨i, t, a1, a2⟩ | ⟨x, t, a1, a2⟩
        · cases a1
          refine ⟨?_, ?_⟩
          · simp only [List.map_cons]
            rw [a2]
            exact .cons (.int _ _) i1
          · simp only [List.map_cons]
            rw [p2, e2]
            exact .cons (.int _ _) i2
        · cases a1
def DpX (K : PySem.W.Frag) (H : Hp) (v : V) (d : PyData) : Prop := (Dp K H v d ∧ d.hasDict = false) ∨ ∃ a ns, v = .ref a ∧ H a = some (.dK (kvI ns)) ∧ d = dcI ns
theorem dpX_reads {X : Cx} {pins : List (Addr × Obj)} {σ : L2.St} {H : Hp} {s : Shared} {v : V} {u : Value} {d : PyData} (I : Inv X pins σ H s) (h : DpX X.K H v d) (r : RelV v u) : ∃ as, Reads s.heap u d as ∧ (d.hasDict = true → sysModules ∉ as) := by
  rcases h with ⟨h, nd⟩ | ⟨a, ns, rfl, ha, rfl⟩
  · obtain ⟨as, q⟩ := Dp.reads I d v u h r
    exact ⟨as, q, fun z => by rw [nd] at z; cases z⟩
  · cases r
    obtain ⟨_, nsys, vs, kv, o, es, ep, h1, h2, h3, _, prs, _⟩ := (show ObjOk X.prog X.w H s.heap a (.dK (kvI ns)) from I.hok a _ ha)
    obtain ⟨k1, k2⟩ := readsI (h := s.heap) (fun _ _ => rfl) ns kv prs
    refine ⟨_, Reads.dict h1 h2.1 h3 (by rw [List.map_map]; exact k1) (by rw [List.map_map]; exact k2), fun _ m => ?_⟩
    simp only [List.append_nil, List.mem_cons, List.not_mem_nil, or_false] at m
    rw [← m] at nsys
    simp at nsys
def rReprX (K : PySem.W.Frag) : List V → Hp → VK → Prop := fun as H Q => ∃ v d, as = [v] ∧ DpX K H v d ∧ d.showable = true ∧ d.depth ≤ 40 ∧ d.shown.length + 64 ≤ sizeLine ∧ Q (.str d.shown) H
theorem call_reprX {X : Cx} (g : X.A.guards = some []) (hu : X.A.units + 70 < cLine) : CallR X (.builtin "repr") (rReprX X.K) := by
  intro pins s σ H as us Q I r h
  obtain ⟨v, d, rfl, dp, sh, dep, sz, q⟩ := h
  obtain ⟨u, rfl, rel⟩ := vals1 r
  obtain ⟨bs, rd, hsm⟩ := dpX_reads I dp rel
  cases rd with
  | none => exact PySem.P.repr_of_none ⟨.str _, H, I.tok _, ⟨_, rfl⟩, q⟩
  | bool b => exact PySem.P.repr_of_bool ⟨.str _, H, I.tok _, ⟨_, rfl⟩, q⟩
  | int i t => exact PySem.P.repr_of_int (of_decide_eq_true sh) ⟨.str _, H, I.tok _, ⟨_, rfl⟩, q⟩
  | str x t => exact PySem.P.repr_of_str ⟨.str _, H, I.tok _, ⟨_, rfl⟩, q⟩ (by have : (reprText x).length + 64 ≤ sizeLine := sz; omega)
  | list a1 a2 a3 a4 => exact repr_of_reads' (.list a1 a2 a3 a4) sh hsm g (by omega) (fun _ _ z => z) (fun h' u tk kp => ⟨.str _, H, I.kept (t' := tk) kp, ⟨_, rfl⟩, q⟩) (by omega)
  | tuple a1 a2 a3 a4 => exact repr_of_reads' (.tuple a1 a2 a3 a4) sh hsm g (by omega) (fun _ _ z => z) (fun h' u tk kp => ⟨.str _, H, I.kept (t' := tk) kp, ⟨_, rfl⟩, q⟩) (by omega)
  | dict a1 a2 a3 a4 a5 => exact repr_of_reads' (.dict a1 a2 a3 a4 a5) sh hsm g (by omega) (fun _ _ z => z) (fun h' u tk kp => ⟨.str _, H, I.kept (t' := tk) kp, ⟨_, rfl⟩, q⟩) (by omega)
/-! ### the kind of any value -/
def kinds : List String := ["NoneType", "bool", "int", "str", "list", "tuple", "dict"]
def tKinds : Tst := fun K => kinds.all fun t => decide (PySem.W.kitOne K (.type t) (.type "int") = some (t == "int" || t == "bool")) && (decide (PySem.W.kitOne K (.type t) (.type "bool") = some (t == "bool")) && decide (PySem.W.kitOne K (.type t) (.type "tuple") = some (t == "tuple")))
structure Kit (K : PySem.W.Frag) (t : String) : Prop where
  int : PySem.W.kitOne K (.type t) (.type "int") = some (t == "int" || t == "bool")
  bool : PySem.W.kitOne K (.type t) (.type "bool") = some (t == "bool")
  tup : PySem.W.kitOne K (.type t) (.type "tuple") = some (t == "tuple")
theorem tKinds_ok {K : PySem.W.Frag} (c : tKinds K = true) : ∀ t ∈ kinds, Kit K t := fun t ht => by
  have h := List.all_eq_true.mp c t ht
  obtain ⟨h1, h⟩ := He.ba h
  obtain ⟨h2, h3⟩ := He.ba h
  exact ⟨of_decide_eq_true h1, of_decide_eq_true h2, of_decide_eq_true h3⟩
/-- v is of that kind -/
def Ki (K : PySem.W.Frag) (H : Hp) (v : V) (t : String) : Prop := TyX K H v (.type t) ∧ t ∈ kinds
section
variable {K : PySem.W.Frag} {H : Hp}
theorem ki_non : Ki K H .non "NoneType" := ⟨.base .non, by decide⟩
theorem ki_bl (b : Bool) : Ki K H (.bl b) "bool" := ⟨.base (.bl b), by decide⟩
theorem ki_int (i : Int) : Ki K H (.int i) "int" := ⟨.base (.int i), by decide⟩
theorem ki_str (x : Str) : Ki K H (.str x) "str" := ⟨.base (.str x), by decide⟩
theorem ki_tup {p : Addr} {xs : List V} (h : SqT K H p xs) : Ki K H (.ref p) "tuple" := ⟨tyT h, by decide⟩
theorem ki_lst {p : Addr} {xs : List V} (h : SqL K H p xs) : Ki K H (.ref p) "list" := ⟨tyL h, by decide⟩
theorem ki_dct {p : Addr} {xs : List (Key × V)} (h : H p = some (.dK xs)) : Ki K H (.ref p) "dict" := ⟨.base (.dK h), by decide⟩
/-- why a value is no fraction -/
inductive NoFr (K : PySem.W.Frag) (H : Hp) : V → Prop where
  | kind {v : V} {t : String} : Ki K H v t → t ≠ "tuple" → NoFr K H v
  | many {p : Addr} {xs : List V} : SqT K H p xs → xs.length ≠ 2 → NoFr K H (.ref p)
  | top {p : Addr} {x y : V} {t : String} : SqT K H p [x, y] → Ki K H x t → t ≠ "int" → NoFr K H (.ref p)
  | bot {p : Addr} {a : Int} {y : V} {t : String} : SqT K H p [.int a, y] → Ki K H y t → t ≠ "int" → NoFr K H (.ref p)
  | low {p : Addr} {a b : Int} : SqT K H p [.int a, .int b] → (b < 1 ∨ Nat.gcd a.natAbs b.natAbs ≠ 1) → NoFr K H (.ref p)
end
end Q7
set_option maxRecDepth 100000
set_option maxHeartbeats 4000000
namespace Q7
open PySem PySem.Spec PyProof.Rows L2
/-! ### any value stays what it is -/
section
variable {K : PySem.W.Frag} {H H' : Hp}
theorem rd_same {a : Addr} {u : HO} (s : Same H H') (h : Rd H a u) : Rd H' a u := h.elim (fun h => .inl (s _ _ h)) fun ⟨o, h⟩ => .inr ⟨o, s _ _ h⟩
theorem sqT_same {a : Addr} {xs : List V} (s : Same H H') (h : SqT K H a xs) : SqT K H' a xs := sqT_tk h (same_tk s)
theorem sqL_same {a : Addr} {xs : List V} (s : Same H H') (h : SqL K H a xs) : SqL K H' a xs := Same.seq s h
theorem tyOf_same {x : V} {t : Value} (s : Same H H') (h : TyOf K H x t) : TyOf K H' x t := by
  cases h with
  | non => exact .non
  | bl x => exact .bl x
  | int i => exact .int i
  | str x => exact .str x
  | flt x => exact .flt x
  | lst h => exact .lst (s _ _ h)
  | frz h => exact .frz (s _ _ h)
  | tup h => exact .tup (s _ _ h)
  | dK h => exact .dK (s _ _ h)
  | dT h => exact .dT (s _ _ h)
  | ins h a b c d e => exact .ins (s _ _ h) a b c d e
theorem tyX_same {x : V} {t : Value} (s : Same H H') (h : TyX K H x t) : TyX K H' x t := by
  cases h with
  | base h => exact .base (tyOf_same s h)
  | byt b => exact .byt b
  | set h => exact .set (s _ _ h)
  | kList a b => exact .kList a b
  | kTuple a b => exact .kTuple a b
  | kDict a b => exact .kDict a b
  | fTuple h => exact .fTuple (s _ _ h)
  | fDict h => exact .fDict (s _ _ h)
mutual
theorem dp_same {H H' : Hp} (s : Same H H') : ∀ {v : V} {d : PyData}, Dp K H v d → Dp K H' v d
  | _, _, .non => .non
  | _, _, .bl b => .bl b
  | _, _, .int i => .int i
  | _, _, .str x => .str x
  | _, _, .lst a b => .lst (sqL_same s a) (dpAll_same s b)
  | _, _, .tup a b => .tup (sqT_same s a) (dpAll_same s b)
theorem dpAll_same {H H' : Hp} (s : Same H H') : ∀ {vs : List V} {ds : List PyData}, DpAll K H vs ds → DpAll K H' vs ds
  | _, _, .nil => .nil
  | _, _, .cons a b => .cons (dp_same s a) (dpAll_same s b)
end
theorem dpX_same {v : V} {d : PyData} (s : Same H H') (h : DpX K H v d) : DpX K H' v d := by
  rcases h with ⟨h, n⟩ | ⟨a, ns, e, h, e2⟩
  · exact .inl ⟨dp_same s h, n⟩
  · exact .inr ⟨a, ns, e, s _ _ h, e2⟩
theorem ki_same {v : V} {t : String} (s : Same H H') (h : Ki K H v t) : Ki K H' v t := ⟨tyX_same s h.1, h.2⟩
theorem noFr_same {v : V} (s : Same H H') (h : NoFr K H v) : NoFr K H' v := by
  cases h with
  | kind k n => exact .kind (ki_same s k) n
  | many S n => exact .many (sqT_same s S) n
  | top S k n => exact .top (sqT_same s S) (ki_same s k) n
  | bot S k n => exact .bot (sqT_same s S) (ki_same s k) n
  | low S n => exact .low (sqT_same s S) n
end
/-! ### small data: their texts -/
structure SmAll (n m : Nat) (ds : List PyData) : Prop where
  sh : PyData.showableAll ds = true
  lf : PyData.leavesShortAll 1921 ds = true
  bk : PyData.bulkAll ds ≤ n
  dp : PyData.depthAll ds ≤ m
  nd : PyData.hasDictAll ds = false
structure SmI (n m : Nat) (d : PyData) : Prop where
  sh : d.showable = true
  lf : d.leavesShort 1921 = true
  bk : d.bulk ≤ n
  dp : d.depth ≤ m
  nd : d.hasDict = false
theorem SmI.len {n m : Nat} {d : PyData} (h : SmI n m d) (hn : n ≤ 4000) : d.shown.length + 64 ≤ sizeLine := by
  have h1 := PyData.shown_le_bulk 1921 (by decide) d h.lf
  have h3 : (1921 + 2) * 4000 + 1921 + 64 ≤ sizeLine := by decide
  have h4 : (1921 + 2) * d.bulk ≤ (1921 + 2) * 4000 := Nat.mul_le_mul (Nat.le_refl _) (Nat.le_trans h.bk hn)
  omega
theorem sm_int {x : Int} (h : ShI x) : SmI 1 0 (.int x) := ⟨by simp only [PyData.showable]; exact decide_eq_true (shI_log h), leaf_int h, by simp [PyData.bulk], by simp [PyData.depth], by simp [PyData.hasDict]⟩
theorem sm_non : SmI 1 0 .none := ⟨by simp [PyData.showable], by simp [PyData.leavesShort], by simp [PyData.bulk], by simp [PyData.depth], by simp [PyData.hasDict]⟩
theorem sm_bl (b : Bool) : SmI 1 0 (.bool b) := ⟨by simp [PyData.showable], by cases b <;> decide +kernel, by simp [PyData.bulk], by simp [PyData.depth], by simp [PyData.hasDict]⟩
theorem smA_nil : SmAll 0 0 [] := ⟨by simp [PyData.showableAll], by simp [PyData.leavesShortAll], by simp [PyData.bulkAll], by simp [PyData.depthAll], by simp [PyData.hasDictAll]⟩
theorem smA_cons {n m k l : Nat} {d : PyData} {ds : List PyData} (h : SmI n m d) (hs : SmAll k l ds) : SmAll (n + k + 1) (max m l) (d :: ds) := by
  refine ⟨?_, ?_, ?_, ?_, ?_⟩
  · simp only [PyData.showableAll, h.sh, hs.sh, Bool.and_self]
  · simp only [PyData.leavesShortAll, h.lf, hs.lf, Bool.and_self]
  · have := h.bk; have := hs.bk; simp only [PyData.bulkAll]; omega
  · have := h.dp; have := hs.dp; simp only [PyData.depthAll]; omega
  · simp only [PyData.hasDictAll, h.nd, hs.nd, Bool.or_self]
theorem sm_tup {n m : Nat} {ds : List PyData} (h : SmAll n m ds) : SmI (n + 1) (m + 1) (.tuple ds) := by
  refine ⟨?_, ?_, ?_, ?_, ?_⟩
  · simp only [PyData.showable]; exact h.sh
  · simp only [PyData.leavesShort]; exact h.lf
  · have := h.bk; simp only [PyData.bulk]; omega
  · have := h.dp; simp only [PyData.depth]; omega
  · simp only [PyData.hasDict]; exact h.nd
theorem sm_lst {n m : Nat} {ds : List PyData} (h : SmAll n m ds) : SmI (n + 1) (m + 1) (.list ds) := by
  refine ⟨?_, ?_, ?_, ?_, ?_⟩
  · simp only [PyData.showable]; exact h.sh
  · simp only [PyData.leavesShort]; exact h.lf
  · have := h.bk; simp only [PyData.bulk]; omega
  · have := h.dp; simp only [PyData.depth]; omega
  · simp only [PyData.hasDict]; exact h.nd
theorem sm_str {x : Str} {n : Nat} (h : PyData.strOk x = true) (l : x.length ≤ n) : SmI n 0 (.str x) := by
  refine ⟨by simp only [PyData.showable], ?_, by simp only [PyData.bulk]; exact l, by simp [PyData.depth], by simp only [PyData.hasDict]⟩
  simp only [PyData.leavesShort]
  rw [List.all_eq_true]
  intro c hc
  unfold PyData.strOk at h
  rw [Array.all_eq_true'] at h
  have := of_decide_eq_true (h c (Array.mem_def.mpr hc))
  exact decide_eq_true (Nat.lt_of_lt_of_le this (by decide))
theorem str_int_len {i : Int} (h : ShI i) : (Str.ofString (toString i)).length ≤ 1921 := shI_text h
/-! ### nearly fractions -/
def OddV (K : PySem.W.Frag) (H : Hp) (v : V) : Prop := NoFr K H v ∧ ∃ d, DpX K H v d ∧ d.showable = true ∧ d.depth ≤ 40 ∧ d.shown.length + 64 ≤ sizeLine
section
variable {K : PySem.W.Frag} {H H' : Hp}
theorem oddV_same {v : V} (s : Same H H') (h : OddV K H v) : OddV K H' v := by
  obtain ⟨n, d, dp, r⟩ := h
  exact ⟨noFr_same s n, d, dpX_same s dp, r⟩
theorem odd_of {v : V} {d : PyData} {n m : Nat} (nf : NoFr K H v) (dp : Dp K H v d) (s : SmI n m d) (hn : n ≤ 4000 := by decide) (hm : m ≤ 9 := by decide) : OddV K H v := by
  have := s.dp
  exact ⟨nf, d, .inl ⟨dp, s.nd⟩, s.sh, by omega, s.len hn⟩
theorem odd_dct {a : Addr} {ns : List (Int × Int)} (h : H a = some (.dK (kvI ns))) (hs : ∀ q ∈ ns, ShI q.1 ∧ ShI q.2) (hl : ns.length ≤ 1) : OddV K H (.ref a) := by
  refine ⟨.kind (ki_dct h) (by decide), dcI ns, .inr ⟨a, ns, rfl, h, rfl⟩, ?_⟩
  match ns, hl, hs with
  | [], _, _ => decide +kernel
  | [(x, y)], _, hs =>
    obtain ⟨h1, h2⟩ := hs (x, y) List.mem_cons_self
    have lf : (dcI [(x, y)]).leavesShort 1921 = true := by
      simp only [dcI, List.map, PyData.leavesShort, PyData.leavesShortKv]
      have e1 := leaf_int h1
      have e2 := leaf_int h2
      simp only [PyData.leavesShort] at e1 e2
      rw [e1, e2]
      rfl
    refine ⟨?_, ?_, ?_⟩
    · simp only [dcI, List.map, PyData.showable, PyData.showableKv]
      rw [decide_eq_true (shI_log h1), decide_eq_true (shI_log h2)]
      rfl
    · simp only [dcI, PyData.depth, PyData.depthKv, List.map]
      decide
    · have h1 := PyData.shown_le_bulk 1921 (by decide) _ lf
      have h2 : (dcI [(x, y)]).bulk = 2 := by simp only [dcI, PyData.bulk, PyData.bulkKv, List.map]
      rw [h2] at h1
      have h3 : (1921 + 2) * 2 + 1921 + 64 ≤ sizeLine := by decide
      omega
end
/-- what is drawn and made so far -/
structure Wk (K : PySem.W.Frag) (x : V) (q : Rat) (b : Addr) (H0 H1 H : Hp) (src : HO) (vs : List V) : Prop where
  sk : Same H1 H
  sb : ∀ y o, H0 y = some o → y ≠ b → H y = some o
  sr : H b = some src
  fx : FrV K H x q
  all : ∀ v ∈ vs, OddV K H v
section
variable {K : PySem.W.Frag} {x : V} {q : Rat} {b : Addr} {H0 H1 H H' : Hp} {src : HO} {vs : List V}
theorem Wk.same (W : Wk K x q b H0 H1 H src vs) (s : Same H H') : Wk K x q b H0 H1 H' src vs :=
  ⟨W.sk.trans s, fun y o e n => s _ _ (W.sb y o e n), s _ _ W.sr, frV_tk W.fx (same_tk s), fun v hv => oddV_same s (W.all v hv)⟩
theorem Wk.new {p : Addr} {o : HO} (W : Wk K x q b H0 H1 H src vs) (hp : H p = none) : Wk K x q b H0 H1 (upd H p o) src vs := W.same (same_new hp)
theorem Wk.put {p : Addr} {o : HO} {v : V} (W : Wk K x q b H0 H1 H src vs) (hp : H p = none) (f : OddV K (upd H p o) v) : Wk K x q b H0 H1 (upd H p o) src (vs ++ [v]) := by
  have W2 := W.new (o := o) hp
  refine ⟨W2.sk, W2.sb, W2.sr, W2.fx, fun u hu => ?_⟩
  rcases List.mem_append.mp hu with hu | hu
  · exact W2.all u hu
  · rw [List.mem_singleton] at hu
    subst hu
    exact f
theorem Wk.add {v : V} (W : Wk K x q b H0 H1 H src vs) (f : OddV K H v) : Wk K x q b H0 H1 H src (vs ++ [v]) := by
  refine ⟨W.sk, W.sb, W.sr, W.fx, fun u hu => ?_⟩
  rcases List.mem_append.mp hu with hu | hu
  · exact W.all u hu
  · rw [List.mem_singleton] at hu
    subst hu
    exact f
theorem Wk.mark (W : Wk K x q b H0 H1 H src vs) : Wk K x q b H0 H H src vs := ⟨Same.refl _, W.sb, W.sr, W.fx, W.all⟩
/-- a tuple of whole numbers only, too long or no fraction -/
theorem odd_ints {p : Addr} {xs : List Int} (h : H p = some (.tup (xs.map V.int))) (nf : NoFr K H (.ref p)) (hs : ∀ i ∈ xs, ShI i) (hl : xs.length ≤ 9) : OddV K H (.ref p) := by
  have sA : ∀ ys : List Int, (∀ i ∈ ys, ShI i) → SmAll (2 * ys.length) 0 (ys.map PyData.int) ∧ DpAll K H (ys.map V.int) (ys.map PyData.int) := by
    intro ys
    induction ys with
    | nil => exact fun _ => ⟨smA_nil, .nil⟩
    | cons y r ih =>
      intro hy
      obtain ⟨i1, i2⟩ := ih fun i hi => hy i (List.mem_cons_of_mem _ hi)
      have := smA_cons (sm_int (hy y List.mem_cons_self)) i1
      refine ⟨⟨this.sh, this.lf, Nat.le_trans this.bk (by simp only [List.length_cons]; omega), Nat.le_trans this.dp (by decide), this.nd⟩, .cons (.int y) i2⟩
  obtain ⟨a1, a2⟩ := sA xs hs
  exact odd_of nf (.tup (sqT_of h) a2) (sm_tup a1) (by omega) (by decide)
end
end Q7
set_option maxRecDepth 100000
set_option maxHeartbeats 4000000
namespace Q7
open PySem PySem.Spec PyProof.Rows L2
/-! ### a caught exception, kept behind its suite -/
/-- an exception of the class at D without an own dict, as a value -/
def ExK (D a : Addr) : HO := .ext fun h => ∃ oe vs, h.get? a = some oe ∧ Zc (.ref D) none oe ∧ oe.data = .fields vs
theorem exK_ok {P : Program} {w : World} {H : Hp} {h : Heap} {D a : Addr} {oe : Obj} {vs : Array Value} (e : h.get? a = some oe) (z : Zc (.ref D) none oe) (d : oe.data = .fields vs) : ObjOk P w H h a (ExK D a) :=
  ⟨⟨oe, vs, e, z, d⟩, ⟨oe, e⟩, fun h1 h2 ⟨oe1, vs1, e1, z1, d1⟩ k => ⟨oe1, vs1, k _ e1, z1, d1⟩⟩
theorem objOk_upd {P : Program} {w : World} {H : Hp} {h : Heap} {a b : Addr} {o : HO} (ha : H a = none) : ∀ (u : HO), ObjOk P w H h b u → ObjOk P w (upd H a o) h b u
  | .lst _, q => q
  | .tup _, q => q
  | .dK _, q => q
  | .dT kvs, q => by
    obtain ⟨x1, x2, xs, pr, r⟩ := q
    refine ⟨x1, x2, xs, pImp (fun p q z => ⟨z.1, ?_, z.2.2⟩) pr, r⟩
    rw [upd_ne (ne_of_none z.2.1 ha)]
    exact z.2.1
  | .set _ _, q => q
  | .ins C dx fs, q => by
    obtain ⟨x1, r⟩ := q
    refine ⟨?_, r⟩
    rw [upd_ne (ne_of_none x1 ha)]
    exact x1
  | .own _, q => q
  | .xd _, q => q
  | .met _ _, q => q
  | .rng _ _, q => q
  | .frz o u, q => ⟨q.1, objOk_upd ha u q.2⟩
  | .tbl _, q => q
  | .ext _, q => q
theorem inv_hold {X : Cx} {pins : List (Addr × Obj)} {σ : L2.St} {H : Hp} {s : Shared} {a : Addr} {o : HO} (J : Inv X pins σ H s) (ha : H a = none) (h0 : X.s_0.heap.get? a = none) (hL : X.env.locals ≠ a) (hc : ∀ x c, List.lookup x X.env.cells = some c → c ≠ a)
    (hp : ∀ p ∈ X.pn ++ pins, p.1 ≠ a) (ob : ObjOk X.prog X.w (upd H a o) s.heap a o) : Inv X pins σ (upd H a o) s := by
  have old : ∀ {b : Addr} {u : HO}, H b = some u → b ≠ a := fun q => ne_of_none q ha
  refine { J with base := { J.base with free := ?_, tups := ?_, frzs := ?_, tbls := ?_ }, free := ?_, freeC := ?_, pin := ?_, hok := ?_ }
  · intro b u e e0 ex
    have : b ≠ a := fun z => by subst z; rw [h0] at e; cases e
    rw [upd_ne this]
    exact J.base.free b u e e0 ex
  · intro b xs e
    have z := J.base.tups b xs e
    rw [upd_ne (old z)]
    exact z
  · intro b u xs e
    have z := J.base.frzs b u xs e
    rw [upd_ne (old z)]
    exact z
  · intro b ps e
    obtain ⟨m, z⟩ := J.base.tbls b ps e
    refine ⟨m, ?_⟩
    rw [upd_ne (old z)]
    exact z
  · rw [upd_ne hL]
    exact J.free
  · intro x c e
    rw [upd_ne (hc x c e)]
    exact J.freeC x c e
  · intro p m
    obtain ⟨p1, p2, p3⟩ := J.pin p m
    refine ⟨p1, ?_, p3⟩
    rw [upd_ne (hp p m)]
    exact p2
  · intro b u e
    by_cases z : b = a
    · subst z
      rw [upd_same] at e
      cases e
      exact ob
    · rw [upd_ne z] at e
      exact objOk_upd ha u (J.hok b u e)
theorem cell_new {h : Heap} {a : Addr} {v : Option Value} (c : h.IsCell a v) (n : h.get? a = none) : False := by
  obtain ⟨o, e, _⟩ := c
  rw [n] at e
  cases e
/-- what is wished of an error that the except takes: behind its suite it is held -/
def wKept (K : PySem.W.Frag) (c : Value) (i : Nat) (ts : Addr → Value → Option Addr → TS) (D : Ends) : WX := fun cls d σ H => PySem.W.exmOne K cls c = some true ∧ ∃ C, cls = .ref C ∧ d = none ∧
  ∀ a, H a = none → ts a cls d { nx := fun σ' H' => D.nx (σ'.set i none) (upd H' a (ExK C a)), rt := fun v H' => D.rt v (upd H' a (ExK C a)), bk := fun σ' H' => D.bk (σ'.set i none) (upd H' a (ExK C a)), ct := fun σ' H' => D.ct (σ'.set i none) (upd H' a (ExK C a)) } (σ.set i (some (.ref a))) H
section
variable {X : Cx} {x n : Str} {c : Value} {i : Nat} {body suite : List Stmt} {b₀ : Stmt} {np pos pos' : Pos} {tb : WX → TS} {ts : Addr → Value → Option Addr → TS}
theorem ps_try_kept (hs : X.stack = X.env :: X.outer) (hf : X.env.frame = some X.env.locals) (hex : X.ex = []) (hN : X.N.Nodup) (hi : X.N[i]? = some n) (hln : X.env.kindOf n = some NameKind.local) (hc : Names X x c)
    (hb : ∀ (W : WX) (pn : List (Addr × Obj)) (xe : Value → Shared → Prop), Takes (X.tr pn xe) W → PassesOwn (model X.prog X.w) X.A X.env xe → PSs (X.tr pn xe) body (tb W))
    (hsu : ∀ (a : Addr) (oe : Obj) (cls : Value) (d : Option Addr) (pn : List (Addr × Obj)), Zc cls d oe → (∃ vs, oe.data = Data.fields vs) → PSs (X.suite a ((a, oe) :: pn)) (b₀ :: suite) (ts a cls d)) :
    PS X (.Try body [.ExceptHandler (some (.Name x np)) (some n) (b₀ :: suite) pos'] [] [] pos) (fun D σ H => tb (wKept X.K c i ts D) D σ H) := by
  refine ⟨fun pins s σ H D I h => ?_⟩
  have ok := I.ok
  have hfr : X.A.frames = some (X.env :: X.outer) := by rw [ok.frames, hs]
  refine wpAny_Try_except (wpAny_mono ((hb (wKept X.K c i ts D) (X.pn ++ pins) (fun e s₁ => wpAny (model X.prog X.w) X.A (noteFrame e X.env) (fun _ s₂ => wpAny (model X.prog X.w) X.A (setFlight e none)
    (fun _ s₃ => wpAny (model X.prog X.w) X.A (handleBy e X.env [.ExceptHandler (some (.Name x np)) (some n) (b₀ :: suite) pos']) (SP X pins D) X.xe s₃) X.xe s₂) X.xe s₁) (fun u s' xx => ?_) PassesOwn.looking).run [] s σ H D (I.toTry _) h) (fun f s1 hsp => ?_) (fun e s1 he => he))
  · obtain ⟨a, B, sI, pins', σ', H', cls, d, rfl, J', nb, up, sky, na, os, ag, hb1, C, rfl, rfl, hyes⟩ := xx
    have J := Inv.ofTry J' ok
    have sky' : Sky B (X.env :: X.outer) a (Zc (.ref C) none) X.env.locals s'.heap := by rw [← hs]; exact sky
    refine Sky.land Zc.steady hfr hf sky' fun h3 fl3 up3 => ?_
    have J3 : Inv X pins σ' H' ⟨h3, s'.gens, s'.drawn, s'.toks, s'.os⟩ := J.landed nb fl3.1 (up.trans up3) os ag
    obtain ⟨oe3, vs3, he3, hz3, hd3⟩ := fl3.there
    have nfr : ¬ a ∈ frs (X.env :: X.outer) := fun hm => by
      obtain ⟨_, o', e', hnf⟩ := Heap.FunFrames.mem fl3.2.2.1 hm
      rw [he3] at e'
      cases e'
      exact hnf vs3 hd3
    have nL : a ≠ X.env.locals := fun z => nfr (List.mem_filterMap.mpr ⟨X.env, List.mem_cons_self, by rw [hf, z]⟩)
    have nF : ¬ a ∈ X.fs := fun hm => by
      obtain ⟨e, he, q⟩ := List.mem_filterMap.mp hm
      exact nfr (List.mem_filterMap.mpr ⟨e, List.mem_cons_of_mem _ he, q⟩)
    have newI : sI.heap.get? a = none := by
      cases e : sI.heap.get? a with
      | none => rfl
      | some o =>
        have z := nb a o e (by rw [hs]; exact nfr)
        rw [fl3.2.1] at z
        cases z
    have new0 : X.s_0.heap.get? a = none := by
      cases e : X.s_0.heap.get? a with
      | none => rfl
      | some o =>
        obtain ⟨o', z⟩ := J.base.there a o e (by rw [hex]; exact List.not_mem_nil)
        rw [newI] at z
        cases z
    have nC : ∀ x c, List.lookup x X.env.cells = some c → c ≠ a := fun x c e z => by
      obtain ⟨v, hv⟩ := J.cell x c e
      subst z
      exact cell_new hv newI
    have nP : ∀ p ∈ X.pn ++ pins, p.1 ≠ a := fun p m z => by
      obtain ⟨p1, _⟩ := J.pin p m
      rw [z, newI] at p1
      cases p1
    have S3 := J3.suite he3 hd3 na nL nF
    refine wpAny_handleBy_cons (codeAny_handlers_test ?_) (fun q => by cases q)
    have LM : PySem.W.Looks (model X.prog X.w) h3 (excMatches (.ref a) c) true := PySem.W.exm_one J3.kIn (fun A Q E s k q => wpAny_typeOf_ref (k a oe3 he3) (by rw [hz3.1]; exact q)) hb1
    have test : ∀ {Q : Value → Shared → Prop} {E : Value → Shared → Prop}, Q c ⟨h3, s'.gens, s'.drawn, s'.toks, s'.os⟩ → wpAny (model X.prog X.w) (X.A.mark (some (.ref a))) (eval (.Name x np) X.env) Q E ⟨h3, s'.gens, s'.drawn, s'.toks, s'.os⟩ := fun {Q E} q => by
      obtain ⟨hg, hd, hm | ⟨hm, hv, hnn⟩⟩ := hc
      · exact ld_glob S3 hg hm q hd
      · exact ld_blt S3 hg hm hv q hnn hd
    refine test (PySem.W.Looks.here LM ?_)
    refine codeAny_handlers_suite_as (HandSPX.lands_againZ fl3 fun h4 fl4 up4 => ?_)
    have J4 : Inv X pins σ' H' ⟨h4, s'.gens, s'.drawn, s'.toks, s'.os⟩ := J.landed nb fl4.1 ((up.trans up3).trans up4) os ag
    obtain ⟨oe4, vs4, he4, hz4, hd4⟩ := fl4.there
    have S4 := J4.suite he4 hd4 na nL nF
    refine store_ok (X := X.suite a ((a, oe4) :: (X.pn ++ pins))) (v := .ref a) S4 hN hi (.inl hln) rfl (fun s5 S5 => ?_) (.inr hln)
    refine wpAny_mono ((hsu a oe4 (.ref C) none (X.pn ++ pins) hz4 ⟨vs4, hd4⟩).run [] s5 _ H' _ S5 (hyes a na)) (fun f s6 hsp => ?_) (fun _ _ z => z.elim)
    have end_ : ∀ {σ6 : L2.St} {H6 : Hp} {Q : Unit → Shared → Prop}, Inv (X.suite a ((a, oe4) :: (X.pn ++ pins))) [] σ6 H6 s6 → (∀ s7, Inv X pins (σ6.set i none) (upd H6 a (ExK C a)) s7 → Q () s7) →
        wpAny (model X.prog X.w) X.A (do bindName X.env n Value.none; unbindBehindTheSuite X.env n pos') Q X.xe s6 := fun {σ6 H6 Q} S6 hq => by
      obtain ⟨g1, g2, _⟩ := S6.pin (a, oe4) (List.mem_append_left _ List.mem_cons_self)
      exact gone_ok (inv_hold (S6.unsuite ok) g2 new0 (Ne.symm nL) nC nP (exK_ok g1 hz4 hd4)) hN hi hln hq
    cases f with
    | next =>
      obtain ⟨σ6, H6, S6, q6⟩ := hsp
      exact end_ S6 fun s7 J7 => ⟨_, _, J7, q6⟩
    | brk =>
      obtain ⟨σ6, H6, S6, q6⟩ := hsp
      exact end_ S6 fun s7 J7 => ⟨_, _, J7, q6⟩
    | cont =>
      obtain ⟨σ6, H6, S6, q6⟩ := hsp
      exact end_ S6 fun s7 J7 => ⟨_, _, J7, q6⟩
    | ret u =>
      obtain ⟨v6, σ6, H6, S6, r6, q6⟩ := hsp
      exact end_ S6 fun s7 J7 => ⟨v6, _, _, J7, r6, q6⟩
  · cases f with
    | next =>
      obtain ⟨σ', H', J', q⟩ := hsp
      exact wpAny_execs_nil ⟨σ', H', J'.ofTry ok, q⟩
    | brk =>
      obtain ⟨σ', H', J', q⟩ := hsp
      exact ⟨σ', H', J'.ofTry ok, q⟩
    | cont =>
      obtain ⟨σ', H', J', q⟩ := hsp
      exact ⟨σ', H', J'.ofTry ok, q⟩
    | ret u =>
      obtain ⟨v, σ', H', J', q⟩ := hsp
      exact ⟨v, σ', H', J'.ofTry ok, q⟩
end
/-! ### isinstance of a held exception -/
def rIsK (K : PySem.W.Frag) : List V → Hp → VK → Prop := fun xs H Q => ∃ (a D : Addr) (c : V) (u : Value) (b : Bool), xs = [.ref a, c] ∧ H a = some (ExK D a) ∧ ExcC K D ∧ ClsV c u ∧ PySem.W.kitOne K (.ref D) u = some b ∧ Q (.bl b) H
def rIsKT (K : PySem.W.Frag) : List V → Hp → VK → Prop := fun xs H Q => ∃ (a D : Addr) (tp : Addr) (cs : List V) (us : List Value) (b : Bool), xs = [.ref a, .ref tp] ∧ H a = some (ExK D a) ∧ ExcC K D ∧ H tp = some (.tup cs) ∧ Paired ClsV cs us ∧ PySem.W.kitAny K (.ref D) us = some b ∧ Q (.bl b) H
theorem inst_k {X : Cx} {pins : List (Addr × Obj)} {σ : L2.St} {H : Hp} {s : Shared} {a D : Addr} (I : Inv X pins σ H s) (ha : H a = some (ExK D a)) : ∃ oe, PySem.W.InstAt s.heap a oe D none := by
  obtain ⟨⟨oe, vs, e, z, d⟩, _⟩ := I.hok a _ ha
  exact ⟨oe, e, z.1, by unfold PySem.W.notCls; rw [d] <;> rfl, by rw [z.2]; trivial⟩
theorem call_isK {X : Cx} : CallR X (.builtin "isinstance") (rIsK X.K) := by
  intro pins s σ H as us Q I r h
  obtain ⟨a, D, c, u, b, rfl, ha, C, k, e, q⟩ := h
  obtain ⟨u1, u2, rfl, r1, r2⟩ := L2.vals2 r
  obtain rfl : u1 = Value.ref a := r1
  have e2 := ClsV.eq k r2
  subst e2
  obtain ⟨oe, J⟩ := inst_k I ha
  exact PySem.W.kia_one (PySem.W.handS_kitx_exc C.hg C.hk C.hs C.hd C.ha C.hn C.ht C.hm) I.kIn J e (fun z => nomatch z) fun tk => ⟨.bl b, H, I.tok tk, rfl, q⟩
theorem call_isKT {X : Cx} : CallR X (.builtin "isinstance") (rIsKT X.K) := by
  intro pins s σ H as us Q I r h
  obtain ⟨a, D, tp, cs, ws, b, rfl, ha, C, hT, k, e, q⟩ := h
  obtain ⟨u1, u2, rfl, r1, r2⟩ := L2.vals2 r
  obtain rfl : u1 = Value.ref a := r1
  obtain rfl : u2 = Value.ref tp := r2
  obtain ⟨oe, J⟩ := inst_k I ha
  obtain ⟨_, its, rv, o, h1, h2, n, h3⟩ := I.hok tp _ hT
  have e3 := ClsV.all k rv
  subst e3
  obtain ⟨oc, od, dt, sl⟩ := o
  cases h2
  cases h3
  exact PySem.W.kia_tup (PySem.W.handS_kitx_exc C.hg C.hk C.hs C.hd C.ha C.hn C.ht C.hm) I.kIn J h1 e (fun z => nomatch z) fun tk => ⟨.bl b, H, I.tok tk, rfl, q⟩
/-! ### two promises of one def; a call by names alone within a try -/
theorem fnOk_or {P : Program} {w : World} {K : PySem.W.Frag} {mg : Str → Option Value} {base : Heap} {CX : CXT} {k : Nat} {f : Addr} {fd : FuncData} {ps : List Str} {sp sq : Sp} (F : FnOk P w K mg base CX k f fd ps sp) (G : FnOk P w K mg base CX k f fd ps sq) :
    FnOk P w K mg base CX k f fd ps (fun vs H Q E => sp vs H Q E ∨ sq vs H Q E) :=
  ⟨fun vs H Q E h => h.elim (F.len vs H Q E) (G.len vs H Q E), fun A outer s H args us vs Q E r e b v h => h.elim (F.run A outer s H args us vs Q E r e b v) (G.run A outer s H args us vs Q E r e b v)⟩
section
variable {X : Cx} {CX : CXT} {k : Nat} {f : Addr} {fd : FuncData} {ps ks : List Str} {sp : Sp} {E : L2.St → XK} {x : Str} {p pos : Pos} {kws : List Keyword} {tk : TA} {g : List Value → List Value → List Value} {gV : List V → List V → List V}
theorem run_fnNS {n : Nat} {pins : List (Addr × Obj)} {σ : L2.St} {H : Hp} {s : Shared} {Q : VK} {us ws : List Value} {vs zs : List V} (F : FnOk X.prog X.w X.K X.mg X.base CX k f fd ps sp) (room : Room k X.A) (bnd : KBn X.K fd ps n ks g gV) (pass : PassesAt CX X σ (E σ)) (I : Inv X pins σ H s)
    (rv : Vals vs us) (rz : Vals zs ws) (l1 : vs.length = n) (l2 : zs.length = ks.length) (prom : sp (gV vs zs) H Q (E σ)) : wpAny (model X.prog X.w) X.A (call (.ref f) us (ks.zip ws)) (EP X pins σ Q) X.xe s := by
  refine wpAny_call (codeAny_mono (F.run X.A X.stack s H ⟨us, ks.zip ws⟩ (g us ws) (gV vs zs) Q (E σ) room I.env0 (bnd.to s us ws I.kIn (by rw [← rv.length]; exact l1) (by rw [← rz.length]; exact l2)) (bnd.rel rv rz) prom) fun res s' hq => ?_)
  match res, hq with
  | .error e, q => exact pass pins H s e s' I q
  | .ok (.ret _), q => exact I.after q
  | .ok .next, q => exact False.elim q
  | .ok .brk, q => exact False.elim q
  | .ok .cont, q => exact False.elim q
def tCallNS (n m : Nat) (sp : Sp) (gV : List V → List V → List V) (E : L2.St → XK) (t tk : TA) : TE := fun σ H Q => t σ H fun vs H1 => tk σ H1 fun zs H2 => vs.length = n ∧ zs.length = m ∧ sp (gV vs zs) H2 Q (E σ)
theorem pe_callKS (F : FnOk X.prog X.w X.K X.mg X.base CX k f fd ps sp) (room : Room k X.A) (gl : Gl X x) (here : X.mg x = some (.ref f)) (kp : PySem.W.keepIn X.K (.ref f) = true) (bnd : KBn X.K fd ps 0 ks g gV) (pass : ∀ σ, PassesAt CX X σ (E σ)) (args : PK X kws tk)
    (named : (backToKw pos (keywordEach kws X.env)).all (·.1.isSome) = true := by rfl) (names : (backToKw pos (keywordEach kws X.env)).filterMap (·.1) = ks := by rfl) (nd : (x == ("__debug__" : Str)) = false := by decide)
    (plain : ((backTo pos (starEach [] X.env)).any (·.1) || (backToKw pos (keywordEach kws X.env)).any (·.1.isNone)) = false := by rfl) : PE X (.Call (.Name x p) [] kws pos) (tCallNS 0 ks.length sp gV E tNil tk) := by
  constructor
  intro pins s σ H Q I h
  refine wpAny_Call_Name_kw (ld_glob I gl here (PySem.W.callWith_KW0 (h₀ := X.base) I.ok.mod.kin kp named (thn (args.run pos pins s σ H _ I h) fun us s2 z => ?_) plain) nd)
  obtain ⟨zs, H2, I2, rz, l1, l2, q⟩ := z
  refine ⟨I2.kIn, ?_⟩
  rw [names]
  exact run_fnNS (us := []) (vs := []) F room bnd (pass σ) I2 .nil rz rfl l2 q
end
/-- what the written part says of an error class -/
def tExcC (K : PySem.W.Frag) (D : Addr) : Bool :=
  (He.eqO (PySem.W.findIn K (.ref D) "__getattribute__") (some (some (.builtin "BaseException.__getattribute__"))) && (He.eqO (PySem.W.findIn K (.ref D) "__getattr__") (some none) && (decide (PySem.W.subIn K (.ref D) (.type "BaseException") = some true) && PySem.W.hasDictIn K D))) &&
  (He.eqO (PySem.W.findIn K (.ref D) "__class__") (some (some (.builtin "object.__class__"))) && (He.eqO (PySem.W.specialIn K (.builtin "object.__class__") "__get__") (some (some (.builtin "getset_descriptor.__get__"))) && (decide (PySem.W.takesIn K (.builtin "object.__class__") = some true) && decide (PySem.W.mroIn K D (.type "object") = some true))))
theorem tExcC_ok {K : PySem.W.Frag} {D : Addr} (h : tExcC K D = true) : ExcC K D := by
  unfold tExcC at h
  obtain ⟨h, g⟩ := He.ba h
  obtain ⟨h1, h⟩ := He.ba h
  obtain ⟨h2, h⟩ := He.ba h
  obtain ⟨h3, h4⟩ := He.ba h
  obtain ⟨g1, g⟩ := He.ba g
  obtain ⟨g2, g⟩ := He.ba g
  obtain ⟨g3, g4⟩ := He.ba g
  exact ⟨He.eqO_ok h1, He.eqO_ok h2, of_decide_eq_true h3, h4, He.eqO_ok g1, He.eqO_ok g2, of_decide_eq_true g3, of_decide_eq_true g4⟩
theorem fnOk_lift {P : Program} {w : World} {K : PySem.W.Frag} {mg : Str → Option Value} {base : Heap} {CX : CXT} {k : Nat} {f : Addr} {fd : FuncData} {ps : List Str} {sp : Sp} (F : FnOk P w K mg base CX0 k f fd ps sp) : FnOk P w K mg base CX k f fd ps sp :=
  ⟨F.len, fun A outer s H args us vs Q E r e b v h => codeAny_mono (F.run A outer s H args us vs Q E r e b v h) fun res s' hq => match res, hq with
    | .error _, q => False.elim q
    | .ok (.ret _), q => q
    | .ok .next, q => False.elim q
    | .ok .brk, q => False.elim q
    | .ok .cont, q => False.elim q⟩
end Q7
set_option maxRecDepth 100000
set_option maxHeartbeats 4000000
namespace Q7
open PySem PySem.Spec PyProof.Rows L2 NdefX
/-! ### {x!r} of data -/
def tFmtD (K : PySem.W.Frag) (te : TE) : TE := fun σ H Q => te σ H fun x H1 => ∃ d, Dp K H1 x d ∧ d.hasDict = false ∧ d.showable = true ∧ d.depth ≤ 40 ∧ d.shown.length + 64 ≤ sizeLine ∧ Q (.str d.shown) H1
theorem pe_fmtD {X : Cx} {e : Expr} {te : TE} {pos : Pos} (g : X.A.guards = some []) (hu : X.A.units + 70 < cLine) (he : PE X e te) : PE X (.FormattedValue e 114 none pos) (tFmtD X.K te) := by
  refine ⟨fun pins s σ H Q I h => ?_⟩
  refine wpAny_FormattedValue_repr (thn (he.run pins s σ H _ I h) fun v s1 hv => ?_)
  obtain ⟨x, H1, I1, r1, d, dp, nd, sh, dep, sz, q⟩ := hv
  obtain ⟨as, rd⟩ := Dp.reads I1 d x v dp r1
  have fin : ∀ {y : Str} {t : Tok} {s2 : Shared}, Inv X pins σ H1 s2 → y.length ≤ sizeLine → Q (.str y) H1 → wpAny (model X.prog X.w) X.A (formatField (.str y t) Str.empty) (EP X pins σ Q) X.xe s2 := fun {y t s2} J hz q =>
    wpAny_formatField_str ⟨.str y, H1, J, ⟨t, rfl⟩, q⟩ ⟨.str y, H1, J.tok _, ⟨_, rfl⟩, q⟩ hz
  cases rd with
  | none => exact pyReprObj_none (fin (I1.tok _) (by decide +kernel) q)
  | bool b => exact pyReprObj_bool (fin (I1.tok _) (by cases b <;> decide +kernel) q)
  | int i t => exact pyReprObj_int (of_decide_eq_true sh) (fin (I1.tok _) (int_text_fits (of_decide_eq_true sh)) q)
  | str x t => exact pyReprObj_str (fin (I1.tok _) (by have : (reprText x).length + 64 ≤ sizeLine := sz; omega) q) (by have : (reprText x).length + 64 ≤ sizeLine := sz; omega)
  | list a1 a2 a3 a4 => exact pyReprObj_of_reads (.list a1 a2 a3 a4) sh (fun z => by rw [nd] at z; cases z) g (by omega) (fun _ _ z => z) (fun h' u tk kp => fin (I1.kept (t' := tk) kp) (by omega) q) (by omega)
  | tuple a1 a2 a3 a4 => exact pyReprObj_of_reads (.tuple a1 a2 a3 a4) sh (fun z => by rw [nd] at z; cases z) g (by omega) (fun _ _ z => z) (fun h' u tk kp => fin (I1.kept (t' := tk) kp) (by omega) q) (by omega)
  | dict a1 a2 a3 a4 a5 => cases nd
/-! ### super().__init__(..) called -/
theorem on_true {α : Type} {M : Model} {A : Around} {c : Prop} [Decidable c] {t e : Sem α} {Q : α → Shared → Prop} {E : Value → Shared → Prop} {s : Shared} (hc : c) (h : wpAny M A t Q E s) : wpAny M A (if c then t else e) Q E s := by
  rw [if_pos hc]
  exact h
abbrev mwI (x : Addr) : Obj := PySem.W.kxs_mw "ValueError.__init__" x
section
open PySem.W
variable {prog : Program} {w : World} {A : Around} {E : Value → Shared → Prop} {h : Heap} {g : Array GenState} {d : Drawn} {t : Nat} {os : OsState}
variable {nm q : Str} {C N : Addr} {bs bm : List Value} {hdct : Bool} {sn : List Str} {sub : List Value} {ab : Bool} {col : Option Bool} {dd : Option Addr} {k0 k1 k2 k3 k5 : Option Value}
theorem call_mwI {u e t0 : Addr} {rest : List Value} {Q : Value → Shared → Prop}
    (hC : h.get? C = some (excClassObj nm q C N bs bm hdct sn sub ab col dd k0 k1 k2 k3 k5 "ValueError.__new__")) (he : h.get? e = some (HandSPX.excO C t0)) (hu : h.get? u = some (mwI e)) (hrest : rest.length ≤ sizeLine)
    (hq : ∀ h' t1, (∀ b o, b ≠ e → h.get? b = some o → h'.get? b = some o) → h'.get? e = some (HandSPX.excO C t1) → Q .none ⟨h', g, d, t, os⟩) :
    wpAny (model prog w) A (call (.ref u) rest) Q E ⟨h, g, d, t, os⟩ := by
  have wrap : ((Value.type "method-wrapper" == Value.type "method") || (Value.type "method-wrapper" == Value.type "builtin_function_or_method") || (Value.type "method-wrapper" == Value.type "method-wrapper")) = true := by decide
  have apart : (Value.type "method-wrapper" != Value.type "method") = true := by decide
  have FE := F.excBase_ValueError
  have body : ∀ A', wpAny (model prog w) A' (Builtin.«BaseException.__init__» ⟨.ref e :: rest, []⟩) (fun fin s' => match fin with | .done f => wants Q E (.ok f) s' | .again c => c.quiet = true ∧ codeAny (model prog w) A c (wants Q E) s')
      (fun x s' => wants Q E (.error x) s') ⟨h, g, d, t, os⟩ := by
    intro A'
    wp_walk
    apply hq _ h.objs.size
    · intro b o ne eo
      rw [Heap.get?_update_other _ _ ne.symm]
      exact Heap.get?_push_of_some _ eo
    · exact (Heap.get?_update_self _ (Heap.get?_push_of_some _ he) rfl).trans rfl
  have ran : codeAny (model prog w) A (.builtin "ValueError.__init__" ⟨.ref e :: rest, []⟩) (wants Q E) ⟨h, g, d, t, os⟩ := by
    refine codeAny_builtin FE.initEntry ?_
    rw [Around.under_plainId FE.init.plain]
    exact body _
  have asked : wpAny (model prog w) A.in1 (callAny (.ref u) ⟨rest, []⟩) (fun fin s' => match fin with | .done f => wants Q E (.ok f) s' | .again c => c.quiet = true ∧ codeAny (model prog w) A c (wants Q E) s')
      (fun x s' => wants Q E (.error x) s') ⟨h, g, d, t, os⟩ := by
    unfold callAny
    refine wpAny_bind (wpAny_load hu (on_true wrap (on_true apart ?_)))
    exact wpAny_bind (ESX.check_bound FE hC he rfl (wpAny_bind (wpAny_pure (wpAny_pure ⟨Code.quiet_builtin _ (by decide +kernel), ran⟩))))
  exact wpAny_call (codeAny_of_tree asked)
end
theorem eval_line {env : Env} {o : Expr} {name : Str} {apos pos jp : Pos} {es : List Expr} (h : apos.endLine = pos.line) : eval (.Call (.Attribute o name apos) [.JoinedStr es jp] [] pos) env = (do
      let ov ← attributeBase o name env (eval o env)
      standAt apos.atName
      let (f, first) ← holding [ov] (getMethod ov name (do return (← importBound o env).getD true))
      callWith pos f first (backTo pos (starEach [.JoinedStr es jp] env)) []) := by
  have hform : methodCallForm (([.JoinedStr es jp] : List Expr).length + ([] : List Keyword).length) (backTo pos (starEach [.JoinedStr es jp] env)) (backToKw pos (keywordEach [] env)) = true := rfl
  have hpos : methodCallPos true o env apos pos = pure pos := by unfold methodCallPos; simp [h]
  have e0 : eval (.Call (.Attribute o name apos) [.JoinedStr es jp] [] pos) env = (do
      let ov ← attributeBase o name env (eval o env)
      standAt apos.atName
      methodCall o name apos pos env ov (([.JoinedStr es jp] : List Expr).length + ([] : List Keyword).length) (backTo pos (starEach [.JoinedStr es jp] env)) (backToKw pos (keywordEach [] env))) := rfl
  rw [e0]
  unfold methodCall calleeOf
  simp only [hform, hpos, pure_bind, if_true]
  rfl
theorem boot_super : bootBuiltins "super" = some (.type "super") := by kernel_rfl
theorem callWith_mw {M : Model} {A : Around} {E : Value → Shared → Prop} {s : Shared} {pos : Pos} {u x : Addr} {env : Env} {e : Expr} {rest : List Expr} {Q : Value → Shared → Prop}
    (h : wpAny M A (spliced (backTo pos (starEach (e :: rest) env))) (fun vs s₁ => s₁.heap.get? u = some (mwI x) ∧ wpAny M A (call (.ref u) vs) Q E s₁) E s)
    (he : starEach (e :: rest) env = (false, eval e env) :: starEach rest env := by rfl) (hplain : (backTo pos (starEach rest env)).any (·.1) = false := by rfl) :
    wpAny M A (callWith pos (.ref u) [] (backTo pos (starEach (e :: rest) env)) []) Q E s := by
  rw [he]
  rw [he] at h
  have none_starred : ((false, eval e env) :: backTo pos (starEach rest env)).any (·.1) = false := (Bool.false_or _).trans hplain
  exact PySem.W.kxs_callWith (i := "ValueError.__init__") (x := x) none_starred (Calls.evalArgs_plain h)
/-! ### an own __init__ that calls super().__init__ -/
structure SupD (P : Program) (K : PySem.W.Frag) (C fI : Addr) (pn f : Str) (fd : FuncData) : Prop where
  ex : ∃ (name qual : Str) (params : Arguments) (body : List Stmt) (scope : Scope) (oc : Value) (od : Option Addr) (dV kV doc pm : Value) (an : Option Addr) (cda cc : Addr) (ct : Value) (osl : Array (Option Value)),
    fd = PySem.W.ksFn name qual params body scope dV kV doc pm an (.ref cda) ct cc ∧ K.lookup fI = some ⟨oc, od, .func fd, osl⟩ ∧ PySem.W.codeIn K (.ref cda) qual = true ∧
    (∃ ccl cdd vs ccs file tf, K.lookup cda = some (⟨ccl, cdd, .fields vs, ccs⟩ : Obj) ∧ vs[2]? = some (.str file tf) ∧ ((P.main.file : Str) == file) = true) ∧
    (∃ cl cld csl, K.lookup cc = some (⟨cl, cld, .cell (some (.ref C)), csl⟩ : Obj)) ∧
    NScope ["self", pn, "__class__"] ["self", pn] ["__class__"] scope ∧ scope.names.lookup ("super" : Str) = some .globalImplicit ∧
    (∃ ar, (params.posonlyargs ++ params.args).head? = some ar ∧ ar.arg = ("self" : Str)) ∧
    ∃ (m : Str) (j : Nat) (p0 p1 p2 p3 p4 p5 p6 p7 p8 p9 p10 p11 p12 : Pos), body = [.Expr (.Call (.Attribute (.Call (.Name "super" p0) [] [] p1) "__init__" p2) [.JoinedStr [.Constant (.str m) j p3, .FormattedValue (.Name pn p4) 114 none p5] p6] [] p7) p8,
      .Assign [.Attribute (.Name "self" p9) f p10] (.Name pn p11) p12] ∧ m.length ≤ 200 ∧ p2.endLine = p7.line ∧ (pn == ("__debug__" : Str)) = false ∧ (pn == ("__classdict__" : Str)) = false
/-- what the written part says of such a class -/
structure SupC (P : Program) (K : PySem.W.Frag) (mg : Str → Option Value) (C : Addr) (f : Str) : Prop where
  oex : OexC K C
  blt : mg "super" = none
  top : (P.main.scope.names.lookup ("super" : Str)).isSome = false
  sup : PySem.W.ks_superIn K C C "__init__" = some (some (.builtin "ValueError.__init__"))
  sub : PySem.W.subIn K (.ref C) (.type "ValueError") = some true
  mro : PySem.W.mroIn K C (.ref C) = some true
  opq : PySem.W.nsIn K cStatics "thirdparty.any" = some none
  nof : PySem.W.findIn K (.ref C) f = some none
/-- short data, as a text -/
def DpN (K : PySem.W.Frag) (H : Hp) (v : V) : Prop := ∃ d, Dp K H v d ∧ d.hasDict = false ∧ d.showable = true ∧ d.depth ≤ 40 ∧ d.shown.length + 300 ≤ sizeLine
def spSup (K : PySem.W.Frag) (C : Addr) (f : Str) : Sp := fun vs H Q _ => ∃ a v, vs = [.ref a, v] ∧ H a = some (exo a C none) ∧ DpN K H v ∧ ∀ dx, H dx = none → dx ≠ a → Q .non (upd (upd H dx (exd dx [(f, v)])) a (exo a C (some dx)))
section
variable {P : Program} {w : World} {K : PySem.W.Frag} {mg : Str → Option Value} {base : Heap} {C fI : Addr} {pn f : Str} {fd : FuncData}
theorem inv_new {X : Cx} {pins : List (Addr × Obj)} {σ : L2.St} {H : Hp} {s : Shared} {q : Addr} {o : Obj} (I : Inv X pins σ H s) (hex : X.ex = []) (hq : ∀ b o, X.s_0.heap.get? b = some o → b ≠ q) (hl : ∀ o, s.heap.get? X.env.locals = some o → X.env.locals ≠ q) (hg : s.heap.get? q = some o) (hn : H q = none) (hd : ∀ v, o.data ≠ .cell v) : Inv X [(q, o)] σ H s := by
  refine I.pins_of fun p hp => ?_
  rw [List.mem_singleton] at hp
  subst hp
  obtain ⟨m, ⟨oL, es, ep, hL, _⟩, _⟩ := I.loc
  exact ⟨hg, hn, (hl _ hL).symm, fun hm => by
    obtain ⟨_, o', e', _⟩ := I.ok.funs.mem hm
    exact hq _ _ e' rfl, hd⟩
theorem sup_run (S : SupD P K C fI pn f fd) (T : SupC P K mg C f) : FnG P w K mg base 3 fI fd ["self", pn] (spSup K C f) := by
  refine ⟨fun as H Q E ⟨a, v, e, _⟩ => by rw [e]; rfl, fun Ar envs st H got raw as Q E g room prom vals bnd ev => ?_⟩
  obtain ⟨name, qual, params, body, scope, oc, od, dV, kV, doc, pm, an, cda, cc, ct, osl, rfl, look, hcd, ⟨ccl, cdd, vs2, ccs, file, tf, hcda, hvs, hfile⟩, ⟨cl, cld, csl, hcell⟩, NS, hks, ⟨ar, har, har2⟩, m, j, p0, p1, p2, p3, p4, p5, p6, p7, p8, p9, p10, p11, p12, hbody, hm, hline, hpd, hpc⟩ := S.ex
  obtain ⟨a, v, rfl, ha, hd, hq⟩ := prom
  have held : ∀ b o, base.get? b = some o → st.heap.get? b = some o := fun b o q => (ev.bs b o q).1
  have KI := ev.mod.kin.keeps held
  have noLim := ev.mod.nolimit.keeps held
  have C0 : CellsAt [("__class__", cc)] ["__class__"] [none] st.heap H := by
    have bc := ev.mod.kin _ _ hcell
    have key : ∀ (y : Str) (c : Addr), List.lookup y [(("__class__" : Str), cc)] = some c → y = "__class__" ∧ c = cc := fun y c e => by
      by_cases hy : y = "__class__"
      · subst hy
        exact ⟨rfl, (Option.some.inj e).symm⟩
      · have q : (y == ("__class__" : Str)) = false := by simpa using hy
        simp only [List.lookup, q] at e
        cases e
    refine ⟨rfl, fun y c e => ?_, fun x y c e1 e2 => (key x c e1).1.trans (key y c e2).1.symm, fun i y e => ?_⟩
    · obtain ⟨rfl, rfl⟩ := key y c e
      exact ⟨(ev.bs _ _ bc).2, some (.ref C), _, (ev.bs _ _ bc).1, rfl⟩
    · have hy : y ∈ ([("__class__" : Str)] : List Str) := List.mem_of_getElem? e
      rw [List.mem_singleton] at hy
      subst hy
      refine ⟨cc, rfl, fun v ev => ?_⟩
      match i, ev with
      | 0, ev => cases ev
      | i + 1, ev => cases ev
  refine PySem.ks_codeAny_call_defAt room.depth (KI _ _ look) rfl noLim (PySem.W.codeRec_of KI hcd) rfl bnd NS.nocell (fun y hy => NS.par y.1 (List.of_mem_zip hy).1) (fun h1 hns keep => ?_) NS.co NS.gen NS.kind
  have I := inv_startN (F := ⟨name, qual, params, body, scope, [("__class__", cc)], cda⟩) (f := fI) (E := E) (CX := CX0) (tk := st.toks + ((["self", pn] : List Str).zip raw).length) NS room.hd ev rfl vals C0 hns keep
  have room' := room.deeper (envF ⟨name, qual, params, body, scope, [("__class__", cc)], cda⟩ fI st.heap.objs.size)
  have hu70 : (Ar.deeper (envF ⟨name, qual, params, body, scope, [("__class__", cc)], cda⟩ fI st.heap.objs.size)).units + 70 < cLine := by
    have := room'.un
    omega
  subst hbody
  obtain ⟨nm, qn, Nn, bs, bm, sn, sub, ab, col, dd, k0, k1, k2, k3, k5, hC, hbm⟩ := T.oex.cls
  have hcl : PySem.W.clsIn K C = some { name := nm, bases := bs, mro := .ref C :: bm, ns := Nn, qualname := qn, hasDict := true, slotNames := sn, subclasses := sub, abstract := ab, collection := col, hasDel := false } := by unfold PySem.W.clsIn; rw [hC] <;> rfl
  have hCn : H C = none := (ev.bs _ _ (ev.mod.kin _ _ hC)).2
  have haC : a ≠ C := ne_of_none ha hCn
  have hal : PySem.W.alongIn K "__init__" (((Value.ref C :: bm).dropWhile (· != .ref C)).drop 1) = some (some (.builtin "ValueError.__init__")) := by
    have z := T.sup
    unfold PySem.W.ks_superIn at z
    rw [hcl] at z
    exact z
  have hkc := NS.frk "__class__" (List.mem_singleton.mpr rfl)
  have hself := NS.par "self" List.mem_cons_self
  have hpn := NS.par pn (List.mem_cons_of_mem _ List.mem_cons_self)
  obtain ⟨hp0, g0, d0, t0, os0⟩ := st
  have KI1 := I.kIn
  obtain ⟨mb, b1, b2⟩ := I.mod.blt
  refine PySem.ks_wpAt_execs_cons (PySem.ks_wpAt_Expr_any (PySem.ks_wpAt_MethodCall ?_ (eval_line hline)) (by unfold interactive; show ((scope.kind == .module) && _) = false; rw [NS.kind]; rfl))
  refine PySem.ks_wpAt_super_base hks hkc (by decide) rfl (KI1 _ _ look) rfl har rfl (KI1 _ _ hcda) rfl hvs hfile T.top ?_
  refine PySem.W.ks_loadName_global NS.kind hks (Calls.loadGlobal_builtin (I.mod.glob.keeps I.bk) T.blt (b1.keeps I.bk) ((b2 "super" (by decide)).trans boot_super) ⟨rfl, ?_⟩)
  refine wpAny_loadName_free NS.kind hkc rfl ⟨_, KI1 _ _ hcell, rfl⟩ ?_
  obtain ⟨mL, hn, hl⟩ := I.loc
  obtain ⟨u0, ru, lk⟩ := hl 0 "self" (.ref a) rfl rfl (.inl hself)
  obtain rfl : u0 = Value.ref a := ru
  have hmL : mL "self" = some (.ref a) := by
    rcases lk with ⟨_, z⟩ | ⟨z | z, _⟩
    · exact z
    · have z2 := hself.symm.trans z
      cases z2
    · have z2 := hself.symm.trans z
      cases z2
  rw [har2]
  refine wpAny_loadName_local NS.kind hself hn hmL ?_
  refine ks_wpAny_isType_cls (KI1 _ _ hC) rfl ⟨rfl, ?_⟩
  obtain ⟨t1, ho⟩ := exo_at I.hok ha
  refine ks_wpAny_call_super (KI1 _ _ hC) rfl ho rfl (fun c z => by cases z) (PySem.W.looks_mroIn KI1 T.mro) (fun h2 e2 kp2 => ?_)
  have I2 := I.kept (t' := t0 + ((["self", pn] : List Str).zip raw).length) kp2
  have ho2 := kp2 _ _ ho
  have J2 : PySem.W.InstAt h2 a { cls := .ref C, dict := none, data := .fields #[.ref t1, .none, .none, .none, .bool false, .none] } C none := ⟨ho2, rfl, rfl, trivial⟩
  refine PySem.W.kxs_getMethod PySem.W.kxs_ValueError e2 (PySem.W.looks_opaque I2.kIn T.opq) (l₀ := .ref C :: bm) (fun A Q E s k q => wpAny_bind ((PySem.W.looks_clsIn I2.kIn hcl) A _ E s k (wpAny_pure q))) rfl I2.kIn hal (J2.type.andThen (PySem.W.looks_subIn I2.kIn T.sub)) haC (by decide) ?_
  have hqg : (h2.push (mwI a)).get? h2.objs.size = some (mwI a) := Heap.get?_push_at rfl rfl
  have I3 := I2.kept (t' := t0 + ((["self", pn] : List Str).zip raw).length + 1) (h' := h2.push (mwI a)) (fun b o e => Heap.get?_push_of_some _ e)
  have hqn : H h2.objs.size = none := I2.hok.fresh (Nat.le_refl _)
  have I4 : Inv _ [(h2.objs.size, mwI a)] _ H _ := inv_new I3 rfl (fun b o e => Nat.ne_of_lt (Heap.lt_size (kp2 _ _ (keep _ _ e)))) (fun o e => by
    obtain ⟨m2, ⟨oL, _, _, hL, _⟩, _⟩ := I2.loc
    exact Nat.ne_of_lt (Heap.lt_size hL)) hqg hqn (fun v z => by cases z)
  obtain ⟨d, dp, nd, sh, dep, sz⟩ := hd
  refine callWith_mw (x := a) (thn ((pa_cons (pe_joined (.cons pe_str (.cons (pe_fmtD g hu70 (pe_var (i := 1) rfl (.inl hpn) hpd hpc)) .nil))) pa_nil).run p7 _ _ _ H (fun vs H1 => H1 = H ∧ ∃ z, vs = [V.str z]) I4 ?_) fun us s4 hz => ?_)
  · refine ⟨m, rfl, ?_, v, rfl, d, dp, nd, sh, dep, by omega, d.shown, rfl, ?_, rfl, _, rfl⟩
    · rw [PySem.Str.length_append, sizeLine_eq]
      show 0 + m.length ≤ _
      omega
    · rw [PySem.Str.length_append, PySem.Str.length_append]
      show 0 + m.length + _ ≤ _
      omega
  · obtain ⟨vs5, H5, I5, r5, e5, z, ez⟩ := hz
    subst ez
    rw [e5] at I5
    refine ⟨(I5.pin (h2.objs.size, mwI a) (List.mem_append_right _ (List.mem_singleton.mpr rfl))).1, ?_⟩
    obtain ⟨t5, ho5⟩ := exo_at I5.hok ha
    have hlen : us.length ≤ sizeLine := by
      rw [← Paired.length r5, sizeLine_eq]
      show 1 ≤ _
      omega
    have K5 := I5.kIn
    have B5 := I5
    obtain ⟨hp5, g5, d5, tk5, os5⟩ := s4
    refine call_mwI (K5 _ _ hC) ho5 (I5.pin (h2.objs.size, mwI a) (List.mem_append_right _ (List.mem_singleton.mpr rfl))).1 hlen (fun h6 t6 k6 e6 => ?_)
    have J := B5.write (t' := tk5) (x := a) (e := a) (o := exo a C none) (by rw [ha]; exact True.intro) (.inl rfl) k6 ⟨_, e6⟩ (exo_ok e6)
    have eu : upd H a (exo a C none) = H := by
      funext b
      by_cases hb : b = a
      · rw [hb, upd_same, ha]
      · rw [upd_ne hb]
    rw [eu] at J
    have J0 := J.pins_of (pins' := []) (fun p hp => absurd hp (by simp))
    refine PySem.wpAt_of_wpAny (wpAny_mono ((pss_one (ps_ost (pe_var (i := 0) rfl (.inl hself)) (pe_var (i := 1) rfl (.inl hpn) hpd hpc))).run [] _ _ H { nx := fun _ H' => Q .non H', rt := Q } J0
      ⟨v, rfl, .ref a, rfl, a, C, rfl, T.oex, T.nof, .inl ⟨ha, fun dx n ne => hq dx n ne⟩⟩) (fun fl s' hs => ?_) fun e s' hs => hs)
    cases fl with
    | ret u =>
      obtain ⟨va, _, H1, J, rel, q⟩ := hs
      exact ⟨va, H1, J.os, J.bare, J.base, J.hok, rel, q⟩
    | next =>
      obtain ⟨_, H1, J, q⟩ := hs
      exact ⟨V.non, H1, J.os, J.bare, J.base, J.hok, rfl, q⟩
    | brk => exact hs.elim fun _ z => z.elim fun _ z => z.2.elim
    | cont => exact hs.elim fun _ z => z.elim fun _ z => z.2.elim
end
end Q7
set_option maxRecDepth 100000
set_option maxHeartbeats 4000000
namespace PySem
namespace HandSPX
open PySem.W PySem.Calls PyProof.Rows
section
open Builtin
variable {prog : Program} {w : World} {M : Model} {A : Around} {E : Value → Shared → Prop} {R : Result → Shared → Prop} {h : Heap} {g : Array GenState} {d : Drawn} {t : Nat} {os : OsState}
variable {nm q : Str} {C N : Addr} {bs bm bmB : List Value} {hdct : Bool} {sn : List Str} {sub : List Value} {ab : Bool} {col : Option Bool} {dd : Option Addr} {k0 k1 k2 k3 k5 : Option Value} {B newId initId : String}
/-! with one keyword: __new__ lets it pass, __init__ takes it -/
abbrev Kw1 (C : Addr) (us : List Value) (kn : Str) (kv : Value) : Args := ⟨.ref C :: us, [(kn, kv)]⟩
theorem xk_has (F : ExcBaseFacts B newId initId bmB) (same : ∀ Y : String, bm.contains (.type Y) = bmB.contains (.type Y)) (Y : String) : (Value.ref C :: bm).contains (.type Y) = bmB.contains (.type Y) :=
  (List.contains_cons ..).trans ((Bool.false_or _).trans (same Y))
theorem xk_new_asks (F : ExcBaseFacts B newId initId bmB) (same : ∀ Y : String, bm.contains (.type Y) = bmB.contains (.type Y)) {us : List Value} {kn : Str} {kv : Value} {Q : Unit → Shared → Prop}
    (cls : h.get? C = some (excClassObj nm q C N bs bm hdct sn sub ab col dd k0 k1 k2 k3 k5 newId)) (then_ : Q () ⟨h, g, d, t, os⟩) : wpAny M A (checkBuiltinCall newId (Kw1 C us kn kv)) Q E ⟨h, g, d, t, os⟩ := by
  have yes := (xk_has (C := C) F same B).trans F.hasB
  have noStar := F.noStar
  unfold checkBuiltinCall
  rw [F.newKind]
  simp only [F.newRow, F.newSplit]
  repeat first
    | exact then_
    | (refine wpAny_isSubtype_exc cls ?_; rw [yes])
    | refine wpAny_staticBase_exc cls ?_
    | refine wpAny_madeBy_exc cls ?_
    | refine wpAny_loadPart_at cls ?_
    | simp only [Bool.false_eq_true, bne_self_eq_false, if_false]
    | wp_step
theorem xk_new_makes (F : ExcBaseFacts B newId initId bmB) (same : ∀ Y : String, bm.contains (.type Y) = bmB.contains (.type Y)) {us : List Value} {kn : Str} {kv : Value} (few : us.length ≤ sizeLine)
    (cls : h.get? C = some (excClassObj nm q C N bs bm hdct sn sub ab col dd k0 k1 k2 k3 k5 newId)) (then_ : R (.ok (.ret (.ref (h.objs.size + 1)))) ⟨(h.push (W.kdv_tup us)).push (excO C h.objs.size), g, d, t, os⟩) :
    codeAny (model prog w) A (.builtin newId (Kw1 C us kn kv)) R ⟨h, g, d, t, os⟩ := by
  have ends := F.ends
  have isB := (xk_has (C := C) F same B).trans F.hasB
  have isA := (xk_has (C := C) F same "AttributeError").trans F.noAttr
  have isN := (xk_has (C := C) F same "NameError").trans F.noName
  apply codeAny_builtinAt F.entry
  unfold Builtin.«BaseException.__new__»
  apply wpAt_bind
  change wpAt _ _ _ (stack >>= _) _ _ _
  apply wpAt_bind
  apply wpAt_stack
  intro p below
  apply wpAt_of_wpAny
  wp_walk
  apply wpAt_of_wpAny
  rw [F.owner]
  repeat first
    | (with_reducible refine wpAny_isSubtype_exc cls ?_; first | rw [isN] | rw [isA] | rw [isB])
    | with_reducible refine wpAny_madeHere_exc F.canon cls ?_
    | with_reducible refine wpAny_loadPart_at cls ?_
    | wp_step
  change R _ _
  rw [Heap.size_push]
  exact then_
theorem xk_type_runs (F : ExcBaseFacts B newId initId bmB) (same : ∀ Y : String, bm.contains (.type Y) = bmB.contains (.type Y)) {us : List Value} {fI : Addr} {kn : Str} {kv : Value} {Q : Fin → Shared → Prop} (few : us.length ≤ sizeLine)
    (cls : h.get? C = some (excClassObj nm q C N bs bm hdct sn sub ab col dd k0 k1 k2 k3 k5 newId)) (ini : W.Looks (model prog w) h (typeLookup (.ref C) "__init__") (some (.ref fI))) (bnd : ∀ self, W.Looks (model prog w) h (bindSpecial (.ref fI) self) (.ref fI, [self]))
    (then_ : codeAny (model prog w) A (.call (.ref fI) ⟨.ref (h.objs.size + 1) :: us, [(kn, kv)]⟩) (fun r s' => match r with | .ok (.ret v) => v = .none ∧ Q (.done (.ret (.ref (h.objs.size + 1)))) s' | .ok _ => False | .error e => E e s')
      ⟨(h.push (W.kdv_tup us)).push (excO C h.objs.size), g, d, t, os⟩) : wpAny (model prog w) A (Builtin.«type.__call__» (Kw1 C us kn kv)) Q E ⟨h, g, d, t, os⟩ := by
  have up : ∀ b o, h.get? b = some o → ((h.push (W.kdv_tup us)).push (excO C h.objs.size)).get? b = some o := fun b o eb => (Heap.get?_push_of_some _ (Heap.get?_push_of_some _ eb))
  have mine : ((h.push (W.kdv_tup us)).push (excO C h.objs.size)).get? (h.objs.size + 1) = some (excO C h.objs.size) := by heap_get
  have self_ : (Value.ref C :: bm).contains (.ref C) = true := by rw [List.contains_cons, beq_self_eq_true, Bool.true_or]
  have cls2 := up _ _ cls
  have ini2 := ini.keeps up
  have bnd2 := (bnd (.ref (h.objs.size + 1))).keeps up
  repeat first
    | with_reducible refine wpAny_madeBy_exc cls ?_
    | with_reducible refine wpAny_loadPart_at cls ?_
    | wp_step
  apply codeAny_call_builtin_code (Code.quiet_builtin _ F.quiet)
  apply xk_new_asks F same cls
  apply xk_new_makes F same few cls
  change wpAny _ _ _ _ _ _
  unfold isInstance
  repeat first
    | (with_reducible refine wpAny_isSubtype_exc cls2 ?_; rw [self_])
    | with_reducible refine wpAny_loadPart_at mine ?_
    | wp_step
  change wpAny _ _ (typeLookup (.ref C) _) _ _ _
  apply ini2.at
  apply wpAny_holding
  apply wpAny_bind
  apply bnd2.at
  apply wpAny_bind
  apply wpAny_call
  apply codeAny_mono then_
  intro r s2 res
  match r, res with
  | .error _, res => exact res
  | .ok (.ret _), ⟨rfl, res⟩ => first | exact wpAny_pure (wpAny_pure res) | (wp_walk; exact res)
  | .ok .next, res => exact res.elim
  | .ok .brk, res => exact res.elim
  | .ok .cont, res => exact res.elim
theorem xk_call_asks {us : List Value} {kn : Str} {kv : Value} {Q : Unit → Shared → Prop} (cls : h.get? C = some (excClassObj nm q C N bs bm hdct sn sub ab col dd k0 k1 k2 k3 k5 newId)) (then_ : Q () ⟨h, g, d, t, os⟩) :
    wpAny M A (checkBuiltinCall "type.__call__" (Kw1 C us kn kv)) Q E ⟨h, g, d, t, os⟩ := by
  have ofType : (⟨h, g, d, t, os⟩ : Shared).TypeIs (.ref C) "type" := ⟨_, cls, rfl⟩
  have subT := tc_sub
  unfold checkBuiltinCall
  rw [tc_kind]
  simp only [tc_split]
  repeat any_goals first
    | assumption
    | with_reducible refine wpAny_map ?_
    | with_reducible refine wpAny_onRaise ?_
    | with_reducible refine wpAny_loadPart_at cls ?_
    | wp_step
theorem kw_call_own (F : ExcBaseFacts B newId initId bmB) (same : ∀ Y : String, bm.contains (.type Y) = bmB.contains (.type Y)) {us : List Value} {fI : Addr} {kn : Str} {kv : Value}
    (cls : h.get? C = some (excClassObj nm q C N bs bm hdct sn sub ab col dd k0 k1 k2 k3 k5 newId)) (ini : W.Looks (model prog w) h (typeLookup (.ref C) "__init__") (some (.ref fI))) (bnd : ∀ self, W.Looks (model prog w) h (bindSpecial (.ref fI) self) (.ref fI, [self])) (few : us.length ≤ sizeLine)
    (then_ : codeAny (model prog w) (A.under (.builtin "type.__call__" (Kw1 C us kn kv))) (.call (.ref fI) ⟨.ref (h.objs.size + 1) :: us, [(kn, kv)]⟩) (W.InitBack (h.objs.size + 1) R) ⟨(h.push (W.kdv_tup us)).push (excO C h.objs.size), g, d, t, os⟩) :
    codeAny (model prog w) A (.call (.ref C) ⟨us, [(kn, kv)]⟩) R ⟨h, g, d, t, os⟩ := by
  have ofType : (⟨h, g, d, t, os⟩ : Shared).TypeIs (.ref C) "type" := ⟨_, cls, rfl⟩
  have look := tc_lookup
  have bind_ := tc_bind (.ref C)
  apply codeAny_of_tree
  change wpAny _ _ (callAny (Value.ref C) _) _ _ _
  repeat any_goals first
    | assumption
    | with_reducible refine wpAny_loadPart_at cls ?_
    | wp_step
  constructor
  · rfl
  apply codeAny_call_builtin_at (Code.quiet_builtin _ (by decide +kernel)) entry_typeCall
  apply xk_call_asks cls
  apply xk_type_runs F same few cls ini bnd
  apply codeAny_mono then_
  intro r s2 res
  match r, res with
  | .error _, res => exact res
  | .ok (.ret _), res => exact res
  | .ok .next, res => exact res
  | .ok .brk, res => exact res
  | .ok .cont, res => exact res
end
end HandSPX
end PySem

namespace Q7
open PySem PySem.Spec PyProof.Rows L2 NdefX
theorem guards_make {A : Around} {C : Addr} {us : List Value} {kw : List (Str × Value)} (g : A.guards = some []) : (A.under (.builtin "type.__call__" ⟨.ref C :: us, kw⟩)).guards = some [] := by
  first
    | exact g
    | (simp only [Around.under, g]; rfl)
    | (show pushGuards _ A.guards = _; rw [g]; rfl)
/-- what is asked of a new exception with a field -/
def XNew (K : PySem.W.Frag) (C : Addr) (f : Str) (v : V) (H : Hp) (Q : VK) : Prop := DpN K H v ∧ ∀ a dx, H a = none → H dx = none → dx ≠ a → Q (.ref a) (upd (upd H dx (exd dx [(f, v)])) a (exo a C (some dx)))
structure SupM (P : Program) (K : PySem.W.Frag) (mg : Str → Option Value) (C fI : Addr) (pn f : Str) (fd : FuncData) : Prop where
  d : SupD P K C fI pn f fd
  c : SupC P K mg C f
  ini : PySem.W.findIn K (.ref C) "__init__" = some (some (.ref fI))
  tyI : PySem.W.typeIn K (.ref fI) = some (.type "function")
  bnd : ∀ (s : Shared) (u1 u2 : Value), BindsTo s fd ⟨[u1, u2], []⟩ [("self", u1), (pn, u2)]
  bnk : ∀ (s : Shared) (u1 u2 : Value), BindsTo s fd ⟨[u1], [(pn, u2)]⟩ [("self", u1), (pn, u2)]
section
variable {X : Cx} {C fI : Addr} {pn f : Str} {fd : FuncData} {pins : List (Addr × Obj)} {σ : L2.St} {H : Hp} {s : Shared} {v : V} {u : Value} {Q : VK}
theorem upd_three {H : Hp} {a dx : Addr} {o1 o2 u : HO} (hn : H a = none) (ne : dx ≠ a) : upd (upd (upd H a o1) dx u) a o2 = upd (upd H dx u) a o2 := by
  funext b
  by_cases hb : b = a
  · subst hb
    rw [upd_same, upd_same]
  · rw [upd_ne hb, upd_ne hb]
    by_cases hd : b = dx
    · subst hd
      rw [upd_same, upd_same]
    · rw [upd_ne hd, upd_ne hd, upd_ne hb]
/-- the object laid, its __init__ run -/
theorem sup_made (M : SupM X.prog X.K X.mg C fI pn f fd) (kw : List (Str × Value)) (us : List Value) (A1 : Around) (hr : Room 3 A1) (g : A1.guards = some []) (I : Inv X pins σ H s) (ru : RelV v u) (h : XNew X.K C f v H Q)
    (ev : ∀ {s' : Shared} {H' : Hp}, Env0 X.prog X.w X.K X.mg X.base X.A X.stack s' H' → Env0 X.prog X.w X.K X.mg X.base A1 X.stack s' H')
    (ar : Args) (hb : ∀ (s' : Shared) (self : Value), True → BindsTo s' fd ⟨self :: us, kw⟩ [("self", self), (pn, u)]) {t0 : Addr} :
    codeAny (model X.prog X.w) A1 (.call (.ref fI) ⟨.ref (s.heap.objs.size + 1) :: us, kw⟩) (PySem.W.InitBack (s.heap.objs.size + 1) (fun r s' => match r with | .ok (.ret u') => EP X pins σ Q u' s' | .ok _ => False | .error e => X.xe e s'))
      { s with heap := (s.heap.push (PySem.W.kdv_tup us)).push (PySem.HandSPX.excO C s.heap.objs.size) } := by
  obtain ⟨hp, g0, dr, tk, os⟩ := s
  obtain ⟨hd, hq⟩ := h
  have hsz : hp.objs.size ≤ hp.objs.size + 1 := Nat.le_succ _
  have hn : H (hp.objs.size + 1) = none := I.hok.fresh hsz
  have kk : ∀ b o, hp.get? b = some o → ((hp.push (PySem.W.kdv_tup us)).push (PySem.HandSPX.excO C hp.objs.size)).get? b = some o := fun b o e => Heap.get?_push_of_some _ (Heap.get?_push_of_some _ e)
  have hget : ((hp.push (PySem.W.kdv_tup us)).push (PySem.HandSPX.excO C hp.objs.size)).get? (hp.objs.size + 1) = some (PySem.HandSPX.excO C hp.objs.size) := by heap_get
  have I2 : Inv X pins σ (upd H (hp.objs.size + 1) (exo (hp.objs.size + 1) C none)) ⟨(hp.push (PySem.W.kdv_tup us)).push (PySem.HandSPX.excO C hp.objs.size), g0, dr, tk, os⟩ :=
    I.laid (t' := tk) (a := hp.objs.size + 1) (o := exo (hp.objs.size + 1) C none) (h' := (hp.push (PySem.W.kdv_tup us)).push (PySem.HandSPX.excO C hp.objs.size)) kk hsz (exo_ok hget)
  have sm : Same H (upd H (hp.objs.size + 1) (exo (hp.objs.size + 1) C none)) := same_new hn
  obtain ⟨d, dp, nd, sh, dep, sz⟩ := hd
  have hd2 : DpN X.K (upd H (hp.objs.size + 1) (exo (hp.objs.size + 1) C none)) v := ⟨d, dp_same sm dp, nd, sh, dep, sz⟩
  have G := sup_run (P := X.prog) (w := X.w) (base := X.base) M.d M.c
  refine codeAny_mono (G.goes A1 X.stack _ _ ⟨Value.ref (hp.objs.size + 1) :: us, kw⟩ [Value.ref (hp.objs.size + 1), u] [V.ref (hp.objs.size + 1), v] (fun x H2 => x = .non ∧ Q (.ref (hp.objs.size + 1)) H2) E0 g hr
    ⟨_, v, rfl, upd_same, hd2, fun dx hdx ne => ⟨rfl, ?_⟩⟩ (.cons rfl (.cons ru .nil)) (hb _ _ trivial) (ev I2.env0)) fun r s' hq' => ?_
  · rw [upd_ne ne] at hdx
    rw [upd_three hn ne]
    exact hq _ dx hn hdx ne
  · cases r with
    | error e => exact False.elim hq'
    | ok fl =>
      cases fl with
      | ret u' =>
        obtain ⟨v', H', I3, rv, ev', q3⟩ := I2.after hq'
        subst ev'
        exact ⟨rv, ⟨V.ref (hp.objs.size + 1), H', I3, rfl, q3⟩⟩
      | next => exact False.elim hq'
      | brk => exact False.elim hq'
      | cont => exact False.elim hq'
def tXNew (K : PySem.W.Frag) (C : Addr) (f : Str) (te : TE) : TE := fun σ H Q => te σ H fun v H1 => XNew K C f v H1 Q
variable {x : Str} {e : Expr} {te : TE} {p pos : Pos}
/-- C(e) -/
theorem pe_sup (M : SupM X.prog X.K X.mg C fI pn f fd) (hr : Room 4 X.A) (g : X.A.guards = some []) (hg : Gl X x) (hm : X.mg x = some (.ref C)) (he : PE X e te)
    (hs : starEach [e] X.env = (false, eval e X.env) :: starEach [] X.env := by rfl) (hdb : (x == ("__debug__" : Str)) = false := by decide) : PE X (.Call (.Name x p) [e] [] pos) (tXNew X.K C f te) := by
  refine ⟨fun pins s σ H Q I h => ?_⟩
  refine wpAny_Call_Name_kw (ld_glob I hg hm ?_ hdb)
  refine PySem.W.callWith_K (h₀ := X.base) I.ok.mod.kin M.c.oex.kC ?_ hs (by rfl)
  rw [hs]
  show wpAny _ _ (spliced ((false, eval e X.env) :: backTo pos (starEach [] X.env))) _ _ s
  refine Calls.spliced_cons (thn (he.run pins s σ H _ I h) fun u s1 ⟨v, H1, I1, r1, q1⟩ => ?_)
  refine Calls.spliced_nil ⟨I1.kIn, ?_⟩
  show wpAny _ _ (call (.ref C) [u]) _ _ _
  obtain ⟨nm, q, N, bs, bm, sn, sub, ab, col, dd, k0, k1, k2, k3, k5, hC, hbm⟩ := M.c.oex.cls
  have J := sup_made M [] [u] (X.A.under (.builtin "type.__call__" ⟨.ref C :: [u], []⟩)) (hr.make C [u] []) (guards_make g) I1 r1 q1 (fun e => e.make C [u] []) ⟨[], []⟩ (fun s' self _ => M.bnd s' self u) (t0 := 0)
  obtain ⟨hp, g0, dr, tk, os⟩ := s1
  exact wpAny_call (codeAny_mono (PySem.HandSPX.call_own F.excBase_ValueError (fun Y => PySem.HandSPX.refsVE_contains Y bm hbm) (I1.kIn _ _ hC) (PySem.W.looks_findIn I1.kIn M.ini) (fun self => PySem.W.bind_fn I1.kIn self M.tyI) (by show 1 ≤ sizeLine; rw [sizeLine_eq]; omega) J) fun r s' z => by
    rcases r with e | (v | _ | _ | _) <;> exact z)
/-- C(n = e) -/
theorem pe_supK {kp : Pos} (M : SupM X.prog X.K X.mg C fI pn f fd) (hr : Room 4 X.A) (g : X.A.guards = some []) (hg : Gl X x) (hm : X.mg x = some (.ref C)) (he : PK X [⟨some pn, e, kp⟩] (tCons te tNil))
    (named : (backToKw pos (keywordEach [⟨some pn, e, kp⟩] X.env)).all (·.1.isSome) = true := by rfl) (names : (backToKw pos (keywordEach [⟨some pn, e, kp⟩] X.env)).filterMap (·.1) = [pn] := by rfl)
    (plain : ((backTo pos (starEach [] X.env)).any (·.1) || (backToKw pos (keywordEach [⟨some pn, e, kp⟩] X.env)).any (·.1.isNone)) = false := by rfl) (hdb : (x == ("__debug__" : Str)) = false := by decide) :
    PE X (.Call (.Name x p) [] [⟨some pn, e, kp⟩] pos) (tXNew X.K C f te) := by
  refine ⟨fun pins s σ H Q I h => ?_⟩
  refine wpAny_Call_Name_kw (ld_glob I hg hm (PySem.W.callWith_KW0 (h₀ := X.base) I.ok.mod.kin M.c.oex.kC named (thn (he.run pos pins s σ H (fun vs H1 => match vs with | [v] => XNew X.K C f v H1 Q | _ => False) I h) fun us s1 z => ?_) plain) hdb)
  obtain ⟨vs, H1, I1, r1, q1⟩ := z
  rcases vs with _ | ⟨v, _ | ⟨_, _⟩⟩
  case nil => exact q1.elim
  case cons.cons => exact q1.elim
  have q1 : XNew X.K C f v H1 Q := q1
  cases r1 with
  | cons r1 rn =>
  cases rn
  rename_i u
  refine ⟨I1.kIn, ?_⟩
  rw [names]
  show wpAny _ _ (call (.ref C) [] [(pn, u)]) _ _ _
  obtain ⟨nm, q, N, bs, bm, sn, sub, ab, col, dd, k0, k1, k2, k3, k5, hC, hbm⟩ := M.c.oex.cls
  have J := sup_made M [(pn, u)] [] (X.A.under (.builtin "type.__call__" ⟨.ref C :: [], [(pn, u)]⟩)) (hr.make C [] [(pn, u)]) (guards_make g) I1 r1 q1 (fun e => e.make C [] [(pn, u)]) ⟨[], []⟩ (fun s' self _ => M.bnk s' self u) (t0 := 0)
  obtain ⟨hp, g0, dr, tk, os⟩ := s1
  exact wpAny_call (codeAny_mono (PySem.HandSPX.kw_call_own F.excBase_ValueError (fun Y => PySem.HandSPX.refsVE_contains Y bm hbm) (I1.kIn _ _ hC) (PySem.W.looks_findIn I1.kIn M.ini) (fun self => PySem.W.bind_fn I1.kIn self M.tyI) (by show 0 ≤ sizeLine; omega) J) fun r s' z => by
    rcases r with e | (v | _ | _ | _) <;> exact z)
end
end Q7
set_option maxRecDepth 100000
set_option maxHeartbeats 4000000
namespace PySem.W
open PySem PySem.Spec PySem.Calls PyProof.Rows Q7
section
variable {prog : Program} {w : World} {A : Around} {E : Value → Shared → Prop} {s : Shared} {K : Frag} {x D : Addr} {ox : Obj} {od : Option Obj}
/-- a descriptor that takes stores is found ahead of the instance's dict -/
theorem xv_descr {C : Addr} {name : Str} {a g : Value} (own : (clsIn K C).isSome = true) (found : findIn K (.ref C) name = some (some a)) (gets : specialIn K a "__get__" = some (some g)) (takes : takesIn K a = some true) : findObj K C od name = some (.bind g a) := by
  cases e : clsIn K C with
  | none => rw [e] at own; cases own
  | some cd => simp [findObj, e, found, gets, takes]
theorem xv_isSome (T : L2.ExcC K D) : (clsIn K D).isSome = true := by
  obtain ⟨cd, e, _⟩ := any_some T.hd
  exact (congrArg Option.isSome e).trans rfl
/-- e.__class__, e an exception with or without a dict -/
theorem xv_class {Q : Option Value → Shared → Prop} (T : L2.ExcC K D) (inK : K.In s.heap) (inst : InstAt s.heap x ox D od) (then_ : Q (some (.ref D)) { s with toks := s.toks + 1 }) : wpAny (model prog w) A (getAttr? (.ref x) "__class__") Q E s := by
  have name_ : (Value.builtin "BaseException.__getattribute__" == Value.builtin "object.__getattribute__") = false := by decide +kernel
  have cond : (onTheHeap (Value.ref D) && (Value.builtin "BaseException.__getattribute__" == Value.builtin "object.__getattribute__")) = false := (congrArg (fun b => onTheHeap (Value.ref D) && b) name_).trans rfl
  have fo : findObj K D od "__class__" = some (.bind (.builtin "getset_descriptor.__get__") (.builtin "object.__class__")) := xv_descr (xv_isSome T) T.ha T.hn T.ht
  obtain ⟨hp, g, d, t, os⟩ := s
  have typ := inst.type (M := model prog w)
  have ga := looks_findIn (M := model prog w) inK T.hg
  have gt := looks_findIn (M := model prog w) inK T.hk
  have fd := looks_find (M := model prog w) inK inst fo
  have isBase : Looks (model prog w) hp (isInstance (.ref x) (.type "BaseException")) true := typ.andThen (looks_subIn inK T.hs)
  have gets : ∀ (A' : Around) (P : Fin → Shared → Prop) (E' : Value → Shared → Prop), P (.done (.ret (.ref D))) ⟨hp, g, d, t + 1, os⟩ → wpAny (model prog w) A' (Builtin.«object.__getattribute__» ⟨[.ref x, .str "__class__" t], []⟩) P E' ⟨hp, g, d, t + 1, os⟩ := by
    intro A' P E' p
    unfold Builtin.«object.__getattribute__»
    apply wpAny_bind
    refine wpAny_of_eq (a := (Value.ref x, [Value.str "__class__" t])) ?_ ?_
    · first | rfl | (simp only [slotArgs]; rfl)
    apply wpAny_bind
    apply wpAny_pure
    apply wpAny_bind
    apply typ.at
    apply wpAny_bind
    apply fd.at
    change wpAny _ _ (holding [Value.builtin "object.__class__"] (call (.builtin "getset_descriptor.__get__") [.builtin "object.__class__", .ref x, .ref D]) >>= ret) _ _ _
    apply wpAny_bind
    apply wpAny_holding
    apply wpAny_call
    apply class_get (s := ⟨hp, g, d, t + 1, os⟩) (ox := ox) (od := od) inK inst T.hm
    exact wpAny_pure p
  have called : wpAny (model prog w) A (call (.builtin "BaseException.__getattribute__") [.ref x, .str "__class__" t]) (fun v s' => v = .ref D ∧ s' = ⟨hp, g, d, t + 1, os⟩) (fun _ _ => False) ⟨hp, g, d, t + 1, os⟩ := by
    apply wpAny_call
    apply codeAny_call_builtin PySem.F.excAttr_ValueError.ga.plain PySem.F.entry_bexc_ga
    exact @check_slot (model prog w) _ _ ⟨hp, g, d, t + 1, os⟩ "BaseException.__getattribute__" "BaseException" "__getattribute__" (.ref x) [.str "__class__" t] [] _ (by decide +kernel) (by decide +kernel) isBase (PySem.F.args_bexc_ga (.ref x) (.str "__class__" t)) (gets _ _ _ ⟨rfl, rfl⟩)
  unfold getAttr? getAttrBy? getAttrBy
  apply wpAny_bind
  apply wpAny_mkText
  apply wpAny_bind
  apply wpAny_attempt
  apply wpAny_holding
  apply wpAny_bind
  apply typ.at
  apply wpAny_bind
  apply ga.at
  have off : ∀ {α : Type} {c : Bool} {u v : Sem α} {Q' : α → Shared → Prop} {E' : Value → Shared → Prop} {s' : Shared}, c = false → wpAny (model prog w) A v Q' E' s' → wpAny (model prog w) A (if c = true then u else v) Q' E' s' := fun hc hv => by
    rw [hc, if_neg Bool.false_ne_true]
    exact hv
  refine off cond ?_
  unfold getAttrByItsOwn hookBefore
  apply wpAny_bind
  refine on_true (show onTheHeap (Value.ref D) = true from rfl) ?_
  apply gt.at
  apply wpAny_bind
  apply wpAny_attempt
  apply wpAny_holding
  unfold callGetattribute
  refine off rfl ?_
  unfold boundAndCalled
  rw [PySem.F.excAttr_ValueError.ga.bind]
  apply wpAny_bind
  apply wpAny_pure
  refine wpAny_mono called ?_ (fun _ _ no => no.elim)
  rintro v s' ⟨rfl, rfl⟩
  first | exact wpAny_pure (wpAny_pure then_) | exact wpAny_pure then_ | exact wpAny_pure (wpAny_bind (wpAny_pure (wpAny_pure then_)))
theorem xv_type {h : Heap} (T : L2.ExcC K D) (inK : K.In h) : ∃ o cd, h.get? D = some o ∧ o.data = .cls cd := by
  have z := xv_isSome T
  unfold clsIn at z
  split at z
  · rename_i look
    exact ⟨_, _, inK _ _ look, rfl⟩
  · cases z
theorem xv_kit (T : L2.ExcC K D) : KitX K (.ref x) (.ref D) (fun h => InstAt h x ox D od) := by
  constructor
  · intro M h inK inst
    exact inst.type
  · intro M h inK inst A' Q' E' s' up q
    obtain ⟨o, cd, at_, dat⟩ := xv_type T inK
    unfold isType loadHead
    refine wpAny_bind (wpAny_loadPart (up _ _ at_) ?_)
    rw [dat]
    exact wpAny_pure q
  · intro h tp dd its n sl inK at_tp
    obtain ⟨o, cd, at_, dat⟩ := xv_type T inK
    apply beq_eq_false_iff_ne.mpr
    intro e
    cases e
    rw [at_] at at_tp
    cases at_tp
    cases dat
  · intro prog w A E Q s inK inst then_
    exact xv_class T inK inst then_
end
end PySem.W
namespace Q7
open PySem PySem.Spec PyProof.Rows L2 NdefX
/-! ### exceptions as values -/
/-- an exception of the class at C: without a dict; with one that holds these fields -/
inductive EXV (H : Hp) (C a : Addr) : Prop where
  | bare (h : H a = some (ExO (.ref C) a))
  | full {dx : Addr} {fs : List (Str × V)} (h : H a = some (exo a C (some dx))) (g : H dx = some (exd dx fs))
theorem EXV.same {H H' : Hp} {C a : Addr} (e : EXV H C a) (s : Same H H') : EXV H' C a := by
  cases e with
  | bare h => exact .bare (s _ _ h)
  | full h g => exact .full (s _ _ h) (s _ _ g)
theorem inst_xv {X : Cx} {pins : List (Addr × Obj)} {σ : L2.St} {H : Hp} {s : Shared} {a D : Addr} (I : Inv X pins σ H s) (e : EXV H D a) : ∃ oe od, PySem.W.InstAt s.heap a oe D od := by
  cases e with
  | bare h =>
    obtain ⟨⟨oe, vs, e, z, d, _⟩, _⟩ := I.hok a _ h
    exact ⟨oe, none, e, z.1, by unfold PySem.W.notCls; rw [d] <;> rfl, by rw [z.2]; trivial⟩
  | full h g =>
    obtain ⟨t1, ho⟩ := exo_at I.hok h
    obtain ⟨mA, ⟨o, es, ep, hd, r⟩, _⟩ := exd_at I.hok g
    exact ⟨_, some o, ho, rfl, rfl, hd⟩
def rIsX (K : PySem.W.Frag) : List V → Hp → VK → Prop := fun xs H Q => ∃ (a D : Addr) (c : V) (u : Value) (b : Bool), xs = [.ref a, c] ∧ EXV H D a ∧ ExcC K D ∧ ClsV c u ∧ PySem.W.kitOne K (.ref D) u = some b ∧ Q (.bl b) H
theorem call_isX {X : Cx} : CallR X (.builtin "isinstance") (rIsX X.K) := by
  intro pins s σ H as us Q I r h
  obtain ⟨a, D, c, u, b, rfl, ha, C, k, e, q⟩ := h
  obtain ⟨u1, u2, rfl, r1, r2⟩ := L2.vals2 r
  obtain rfl : u1 = Value.ref a := r1
  have e2 := ClsV.eq k r2
  subst e2
  obtain ⟨oe, od, J⟩ := inst_xv I ha
  exact PySem.W.kia_one (PySem.W.xv_kit C) I.kIn J e (fun z => nomatch z) fun tk => ⟨.bl b, H, I.tok tk, rfl, q⟩
/-- e.f of such an exception -/
def tXfv (K : PySem.W.Frag) (f : Str) (te : TE) : TE := fun σ H Q => te σ H fun x H1 => ∃ (a C dd : Addr) (fs : List (Str × V)) (v : V), x = .ref a ∧ XfC K C ∧ PySem.W.findIn K (.ref C) f = some none ∧ H1 a = some (exo a C (some dd)) ∧ H1 dd = some (exd dd fs) ∧ fs.lookup f = some v ∧ Q v H1
theorem pe_xfv {X : Cx} {e : Expr} {te : TE} {pos : Pos} {n : Str} (he : PE X e te) (hb : attributeBase e n X.env (eval e X.env) = eval e X.env := by rfl) : PE X (.Attribute e n pos) (tXfv X.K n te) := by
  refine ⟨fun pins s σ H Q I h => ?_⟩
  refine attr_of hb (thn (he.run pins s σ H _ I h) fun u s1 hh => ?_)
  obtain ⟨x, H1, I1, rx, a, C, dd, fs, v, ex, T, hno, ha, hd, l, q⟩ := hh
  subst ex
  obtain rfl : u = Value.ref a := rx
  obtain ⟨t1, ho⟩ := exo_at I1.hok ha
  obtain ⟨mA, hns, hr⟩ := exd_at I1.hok hd
  obtain ⟨od, hod, hl⟩ := lookIn_ns hns
  obtain ⟨u, hu, ru⟩ := RelO.some_of (v := v) (o := mA n) (by rw [← l]; exact hr n)
  have J : PySem.W.InstAt s1.heap a { cls := .ref C, dict := some dd, data := .fields #[.ref t1, .none, .none, .none, .bool false, .none] } C (some od) := ⟨ho, rfl, rfl, hod⟩
  exact HandSPX.exc_get I1.kIn J T.ga T.gg T.exC (PySem.W.findObj_own T.hdC hno rfl (by rw [hl, hu])) (handed_of ru) ⟨v, H1, I1.tok _, ru, q⟩
end Q7
set_option maxRecDepth 100000
set_option maxHeartbeats 4000000
namespace Q7
open PySem PySem.Spec PyProof.Rows L2 NdefX
/-! ### tests of such classes -/
def supBody (pn f : Str) : FuncBody → Bool
  | .stmts [.Expr (.Call (.Attribute (.Call (.Name a _) [] [] _) b p2) [.JoinedStr [.Constant (.str m) _ _, .FormattedValue (.Name c _) k none _] _] [] p7) _, .Assign [.Attribute (.Name d _) e _] (.Name g _) _] =>
    decide (p2.endLine = p7.line) && (decide (a = "super") && (decide (b = "__init__") && (decide (m.length ≤ 200) && (decide (c = pn) && (decide (k = 114) && (decide (d = "self") && (decide (e = f) && decide (g = pn))))))))
  | _ => false
def supArgs (pn : Str) : Arguments → Bool
  | ⟨[], [⟨a, _, _⟩, ⟨b, _, _⟩], none, [], [], none, []⟩ => decide (a = "self") && decide (b = pn)
  | _ => false
def supCode (file : Str) (K : PySem.W.Frag) (q : Str) : Value → Bool
  | .ref c => PySem.W.codeIn K (.ref c) q && (match K.lookup c with
    | some ⟨_, _, .fields vs, _⟩ => (match (vs[2]? : Option Value) with
      | some (Value.str y _) => file == y
      | _ => false)
    | _ => false)
  | _ => false
def supCell (K : PySem.W.Frag) (C : Addr) : List (Str × Addr) → Bool
  | [(x, cc)] => decide (x = "__class__") && (match K.lookup cc with
    | some ⟨_, _, .cell (some (.ref D)), _⟩ => decide (D = C)
    | _ => false)
  | _ => false
def supFn (file : Str) (K : PySem.W.Frag) (C : Addr) (pn f : Str) (fd : FuncData) : Bool :=
  supArgs pn fd.params && (supBody pn f fd.body && (nscB ["self", pn, "__class__"] ["self", pn] ["__class__"] fd.scope && (decide (fd.scope.names.lookup ("super" : Str) = some .globalImplicit) &&
    (decide (fd.globals = mainGlobals) && (decide (fd.builtins = builtinsNs) && (supCode file K fd.qualname fd.code && (supCell K C fd.closure && (decide (fd.defaults = .none) && decide (fd.kwdefaults = .none)))))))))
def supD (file : Str) (K : PySem.W.Frag) (C : Addr) (pn f : Str) : Bool := match K.lookup (He.ma K C "__init__") with
  | some ⟨_, _, .func fd, _⟩ => supFn file K C pn f fd
  | _ => false
theorem supBody_ok {pn f : Str} : ∀ {b : FuncBody}, supBody pn f b = true → ∃ (m : Str) (j : Nat) (p0 p1 p2 p3 p4 p5 p6 p7 p8 p9 p10 p11 p12 : Pos), b = .stmts [.Expr (.Call (.Attribute (.Call (.Name "super" p0) [] [] p1) "__init__" p2) [.JoinedStr [.Constant (.str m) j p3, .FormattedValue (.Name pn p4) 114 none p5] p6] [] p7) p8,
      .Assign [.Attribute (.Name "self" p9) f p10] (.Name pn p11) p12] ∧ m.length ≤ 200 ∧ p2.endLine = p7.line := by
  intro b h
  unfold supBody at h
  split at h
  · obtain ⟨h0, h⟩ := He.ba h
    obtain ⟨h1, h⟩ := He.ba h
    obtain ⟨h2, h⟩ := He.ba h
    obtain ⟨h3, h⟩ := He.ba h
    obtain ⟨h4, h⟩ := He.ba h
    obtain ⟨h5, h⟩ := He.ba h
    obtain ⟨h6, h⟩ := He.ba h
    obtain ⟨h7, h8⟩ := He.ba h
    rw [of_decide_eq_true h1, of_decide_eq_true h2, of_decide_eq_true h4, of_decide_eq_true h5, of_decide_eq_true h6, of_decide_eq_true h7, of_decide_eq_true h8]
    exact ⟨_, _, _, _, _, _, _, _, _, _, _, _, _, _, _, rfl, of_decide_eq_true h3, of_decide_eq_true h0⟩
  · cases h
theorem supArgs_ok {pn : Str} : ∀ {b : Arguments}, supArgs pn b = true → ∃ a1 q1 a2 q2, b = ⟨[], [⟨"self", a1, q1⟩, ⟨pn, a2, q2⟩], none, [], [], none, []⟩ := by
  intro b h
  unfold supArgs at h
  split at h
  · obtain ⟨h1, h2⟩ := He.ba h
    rw [of_decide_eq_true h1, of_decide_eq_true h2]
    exact ⟨_, _, _, _, rfl⟩
  · cases h
theorem supCode_ok {file : Str} {K : PySem.W.Frag} {q : Str} : ∀ {v : Value}, supCode file K q v = true → ∃ cda, v = .ref cda ∧ PySem.W.codeIn K (.ref cda) q = true ∧ ∃ ccl cdd vs ccs y tf, K.lookup cda = some (⟨ccl, cdd, .fields vs, ccs⟩ : Obj) ∧ vs[2]? = some (.str y tf) ∧ (file == y) = true := by
  intro v h
  cases v with
  | ref c =>
    obtain ⟨h1, h2⟩ := He.ba (show (PySem.W.codeIn K (.ref c) q && (match K.lookup c with
      | some ⟨_, _, .fields vs, _⟩ => (match (vs[2]? : Option Value) with
        | some (Value.str y _) => file == y
        | _ => false)
      | _ => false)) = true from h)
    refine ⟨c, rfl, h1, ?_⟩
    split at h2
    · rename_i lk
      split at h2
      · rename_i e
        exact ⟨_, _, _, _, _, _, lk, e, h2⟩
      · cases h2
    · cases h2
  | _ => cases h
theorem supCell_ok {K : PySem.W.Frag} {C : Addr} : ∀ {l : List (Str × Addr)}, supCell K C l = true → ∃ cc, l = [(("__class__" : Str), cc)] ∧ ∃ cl cld csl, K.lookup cc = some (⟨cl, cld, .cell (some (.ref C)), csl⟩ : Obj) := by
  intro l h
  unfold supCell at h
  split at h
  · rename_i x cc
    obtain ⟨h1, h2⟩ := He.ba h
    split at h2
    · rename_i lk
      rw [of_decide_eq_true h1]
      rw [of_decide_eq_true h2] at lk
      exact ⟨cc, rfl, _, _, _, lk⟩
    · cases h2
  · cases h
/-- how such a def's parameters are bound: by place, by name -/
def SupBd (pn : Str) : Prop := (pn == ("__debug__" : Str)) = false ∧ (pn == ("__classdict__" : Str)) = false ∧ ∀ (name qual : Str) (a1 : Option Expr) (q1 : Pos) (a2 : Option Expr) (q2 : Pos) (body : List Stmt) (scope : Scope) (doc pm : Value) (an : Option Addr) (cdv ct : Value) (cc : Addr) (u1 u2 : Value),
  bindArgs (PySem.W.ksFn name qual ⟨[], [⟨"self", a1, q1⟩, ⟨pn, a2, q2⟩], none, [], [], none, []⟩ body scope .none .none doc pm an cdv ct cc) ⟨[u1, u2], []⟩ = pure [(("self" : Str), u1), (pn, u2)] ∧
  bindArgs (PySem.W.ksFn name qual ⟨[], [⟨"self", a1, q1⟩, ⟨pn, a2, q2⟩], none, [], [], none, []⟩ body scope .none .none doc pm an cdv ct cc) ⟨[u1], [(pn, u2)]⟩ = pure [(("self" : Str), u1), (pn, u2)]
theorem supD_ok {P : Program} {K : PySem.W.Frag} {C : Addr} {pn f : Str} (bd : SupBd pn) (h : supD (P.main.file : Str) K C pn f = true) : ∃ fd, SupD P K C (He.ma K C "__init__") pn f fd ∧
    (∀ (s : Shared) (u1 u2 : Value), BindsTo s fd ⟨[u1, u2], []⟩ [(("self" : Str), u1), (pn, u2)]) ∧ ∀ (s : Shared) (u1 u2 : Value), BindsTo s fd ⟨[u1], [(pn, u2)]⟩ [(("self" : Str), u1), (pn, u2)] := by
  unfold supD at h
  split at h
  · rename_i fd _ lk
    obtain ⟨n1, n2, n3, n4, n5, n6, n7, n8, n9, n10, n11, n12, n13, n14, n15⟩ := fd
    obtain ⟨h1, h⟩ := He.ba h
    obtain ⟨h2, h⟩ := He.ba h
    obtain ⟨h3, h⟩ := He.ba h
    obtain ⟨h4, h⟩ := He.ba h
    obtain ⟨h5, h⟩ := He.ba h
    obtain ⟨h6, h⟩ := He.ba h
    obtain ⟨h7, h⟩ := He.ba h
    obtain ⟨h8, h⟩ := He.ba h
    obtain ⟨h9, h10⟩ := He.ba h
    dsimp only at h1 h2 h3 h4 h5 h6 h7 h8 h9 h10
    obtain rfl := of_decide_eq_true h9
    obtain rfl := of_decide_eq_true h10
    obtain ⟨a1, q1, a2, q2, rfl⟩ := supArgs_ok h1
    obtain ⟨m, j, p0, p1, p2, p3, p4, p5, p6, p7, p8, p9, p10, p11, p12, rfl, hm, hln⟩ := supBody_ok h2
    obtain ⟨cda, rfl, hcd, hcode⟩ := supCode_ok h7
    obtain ⟨cc, rfl, hcell⟩ := supCell_ok h8
    obtain rfl := of_decide_eq_true h5
    obtain rfl := of_decide_eq_true h6
    exact ⟨_, ⟨n1, n2, _, _, n5, _, _, .none, .none, n10, n11, n12, cda, cc, n14, _, rfl, lk, hcd, hcode, hcell, nscope_by h3, of_decide_eq_true h4, ⟨_, rfl, rfl⟩, m, j, p0, p1, p2, p3, p4, p5, p6, p7, p8, p9, p10, p11, p12, rfl, hm, hln, bd.1, bd.2.1⟩,
      fun s u1 u2 => .of_eq (bd.2.2 _ _ _ _ _ _ _ _ _ _ _ _ _ _ u1 u2).1, fun s u1 u2 => .of_eq (bd.2.2 _ _ _ _ _ _ _ _ _ _ _ _ _ _ u1 u2).2⟩
  · cases h
def oexB (K : PySem.W.Frag) (C : Addr) : Bool := (match K.lookup C with
  | some ⟨.type "type", _, .cls cd, sl⟩ => (match cd.mro, sl.toList with
    | .ref C' :: bm, [_, _, _, _, some (.builtin n), _] => C' == C && (n == "ValueError.__new__" && (!cd.hasDel && (cd.hasDict && PySem.HandSPX.refsVE bm)))
    | _, _ => false)
  | _ => false) && (He.eqO (PySem.W.findIn K (.ref C) "__setattr__") (some (some (.builtin "object.__setattr__"))) && (decide (PySem.W.subIn K (.ref C) (.type "BaseException") = some true) && (decide (PySem.W.typeIn K (.ref C) = some (.type "type")) && PySem.W.keepIn K (.ref C))))
theorem oexB_ok {K : PySem.W.Frag} {C : Addr} (h : oexB K C = true) : OexC K C := by
  obtain ⟨q, h⟩ := He.ba h
  obtain ⟨h1, h⟩ := He.ba h
  obtain ⟨h2, h⟩ := He.ba h
  obtain ⟨h3, h4⟩ := He.ba h
  refine ⟨?_, He.eqO_ok h1, of_decide_eq_true h2, of_decide_eq_true h3, h4⟩
  split at q
  · rename_i dd cd sl ho
    split at q
    · rename_i one others s0 s1 s2 s3 maker s5 order slots
      obtain ⟨c1, c2⟩ := He.ba q
      obtain ⟨c3, c4⟩ := He.ba c2
      obtain ⟨c5, c6⟩ := He.ba c4
      obtain ⟨c7, c8⟩ := He.ba c6
      cases eq_of_beq c1
      cases eq_of_beq c3
      rcases cd with ⟨a1, a2, a3, a4, a5, a6, a7, a8, a9, a10, a11⟩
      have z : sl = #[s0, s1, s2, s3, some (.builtin "ValueError.__new__"), s5] := by
        rcases sl with ⟨l⟩
        exact congrArg Array.mk slots
      dsimp only at order c5 c7
      cases order
      cases c7
      cases a11 with
      | true => cases c5
      | false => exact ⟨a1, a5, a4, a2, others, a7, a8, a9, a10, dd, s0, s1, s2, s3, s5, by rw [ho, z], c8⟩
    · cases q
  · cases q
def supC (K : PySem.W.Frag) (C : Addr) (f : Str) : Bool := oexB K C && (decide (PySem.W.ks_superIn K C C "__init__" = some (some (.builtin "ValueError.__init__"))) && (decide (PySem.W.subIn K (.ref C) (.type "ValueError") = some true) && (decide (PySem.W.mroIn K C (.ref C) = some true) &&
  (He.eqO (PySem.W.nsIn K cStatics "thirdparty.any") (some none) && He.eqO (PySem.W.findIn K (.ref C) f) (some none)))))
def supM (file : Str) (K : PySem.W.Frag) (C : Addr) (pn f : Str) : Bool := supD file K C pn f && (supC K C f && (He.eqO (PySem.W.findIn K (.ref C) "__init__") (some (some (.ref (He.ma K C "__init__")))) && decide (PySem.W.typeIn K (.ref (He.ma K C "__init__")) = some (.type "function"))))
theorem supM_ok {P : Program} {K : PySem.W.Frag} {mg : Str → Option Value} {C : Addr} {pn f : Str} (bd : SupBd pn) (hs : mg "super" = none) (ht : (P.main.scope.names.lookup ("super" : Str)).isSome = false) (h : supM (P.main.file : Str) K C pn f = true) : ∃ fd, SupM P K mg C (He.ma K C "__init__") pn f fd := by
  obtain ⟨h1, h⟩ := He.ba h
  obtain ⟨h2, h⟩ := He.ba h
  obtain ⟨h3, h4⟩ := He.ba h
  obtain ⟨c1, c⟩ := He.ba h2
  obtain ⟨c2, c⟩ := He.ba c
  obtain ⟨c3, c⟩ := He.ba c
  obtain ⟨c4, c⟩ := He.ba c
  obtain ⟨c5, c6⟩ := He.ba c
  obtain ⟨fd, d1, d2, d3⟩ := supD_ok bd h1
  exact ⟨fd, d1, ⟨oexB_ok c1, hs, ht, of_decide_eq_true c2, of_decide_eq_true c3, of_decide_eq_true c4, He.eqO_ok c5, He.eqO_ok c6⟩, He.eqO_ok h3, of_decide_eq_true h4, d2, d3⟩
def tXfC (K : PySem.W.Frag) (D : Addr) : Bool := xfB K D
/-! ### a head's facts with the statics among them -/
def hookC (n : Nat) (fa : List He.Fa) (fn : List He.DefD) (ts : List He.Tab) (ex : List Tst) : PySem.W.Hook where
  α := He.AlT × Bool
  obs := fun s => (He.obsT fa fn ts (He.frG s.heap.get? (cStatics :: sysModules :: He.asD s.heap.get? n)), ex.all fun f => f (He.frG s.heap.get? (cStatics :: sysModules :: He.asD s.heap.get? n)))
  val := fun w => (He.valT fn ts w, true)
  says := fun w h => ∃ K : PySem.W.Frag, K.In h ∧ He.SaysT fa fn ts w K ∧ (ex.all fun f => f K) = true
  of := fun _ _ e => ⟨_, He.frG_in, congrArg (fun z : He.AlT × Bool => z.1) e, congrArg (fun z : He.AlT × Bool => z.2) e⟩
  keeps := fun _ _ _ ⟨K, hK, c⟩ k => ⟨K, PySem.W.Frag.In.keeps hK k, c⟩
def obC (n : Nat) (fa : List He.Fa) (fn : List He.DefD) (ts : List He.Tab) (ex : List Tst) (g : Addr → Option Obj) : He.AlT × Bool := (He.obsT fa fn ts (He.frG g (cStatics :: sysModules :: He.asD g n)), ex.all fun f => f (He.frG g (cStatics :: sysModules :: He.asD g n)))
theorem obC_eq {n : Nat} {fa : List He.Fa} {fn : List He.DefD} {ts : List He.Tab} {ex : List Tst} {g : Addr → Option Obj} {s : Shared} (h : ∀ a, g a = s.heap.get? a) : obC n fa fn ts ex g = (hookC n fa fn ts ex).obs s := by
  have e : g = s.heap.get? := funext h
  rw [e] <;> rfl
end Q7
set_option maxRecDepth 100000
set_option maxHeartbeats 4000000
namespace Q7
open PySem PySem.Spec PyProof.Rows L2 NdefX
theorem fold_size (c : Array Nat) : ∀ (n : Nat) (acc : Array Nat), ((List.replicate n c).foldl (· ++ ·) acc).size = acc.size + n * c.size
  | 0, acc => by simp
  | n + 1, acc => by
    rw [List.replicate_succ, List.foldl_cons, fold_size c n, Array.size_append, Nat.succ_mul]
    omega
/-- a text of one sign, some times -/
theorem op_mulS {X : Cx} : OpR X (binaryOp .Mult) (fun x y H Q => ∃ (z : Str) (k : Int), x = .str z ∧ y = .int k ∧ z.length = 1 ∧ 0 ≤ k ∧ k < 1000 ∧ ∀ y : Str, Q (.str y) H) := by
  intro pins s σ H x y v u Q I rx ry h
  obtain ⟨z, k, rfl, rfl, hz, h0, h1, q⟩ := h
  obtain ⟨t, rfl⟩ := rx
  obtain ⟨t2, rfl⟩ := ry
  refine PySem.P.mul_str ?_ (fun a b => ?_) (fun a b => ?_) ?_
  · rw [decide_eq_false (by omega), decide_eq_false (by omega)]
    rfl
  · rw [hz]
    intro z
    have : (1 : Int) ≤ (2 ^ 63 - 1) / k := by
      rw [Int.le_ediv_iff_mul_le (by omega)]
      omega
    omega
  · unfold Builtin.Str.tooLong
    rw [hz]
    exact decide_eq_false (by rw [sizeLine_eq]; omega)
  · split
    · exact ⟨by decide, ⟨.str _, H, I.tok _, ⟨_, rfl⟩, q _⟩⟩
    · split
      · exact ⟨.str z, H, I, ⟨t, rfl⟩, q z⟩
      · refine ⟨?_, ⟨.str _, H, I.tok _, ⟨_, rfl⟩, q _⟩⟩
        show ((List.replicate k.toNat z.cps).foldl (fun x1 x2 => x1 ++ x2) #[]).size ≤ sizeLine
        rw [fold_size]
        have hz2 : z.cps.size = 1 := hz
        rw [hz2, sizeLine_eq]
        show 0 + _ ≤ _
        omega
/-! ### short data -/
theorem SmI.n300 {n m : Nat} {d : PyData} (h : SmI n m d) (hn : n ≤ 4000) : d.shown.length + 300 ≤ sizeLine := by
  have h1 := PyData.shown_le_bulk 1921 (by decide) d h.lf
  have h3 : (1921 + 2) * 4000 + 1921 + 300 ≤ sizeLine := by decide
  have h4 : (1921 + 2) * d.bulk ≤ (1921 + 2) * 4000 := Nat.mul_le_mul (Nat.le_refl _) (Nat.le_trans h.bk hn)
  omega
theorem dpN_of {K : PySem.W.Frag} {H : Hp} {v : V} {d : PyData} {n m : Nat} (dp : Dp K H v d) (s : SmI n m d) (hn : n ≤ 4000 := by decide) (hm : m ≤ 40 := by decide) : DpN K H v := ⟨d, dp, s.nd, s.sh, Nat.le_trans s.dp hm, s.n300 hn⟩
theorem dpN_int {K : PySem.W.Frag} {H : Hp} {i : Int} (h : ShI i) : DpN K H (.int i) := dpN_of (.int i) (sm_int h)
theorem dpN_non {K : PySem.W.Frag} {H : Hp} : DpN K H .non := dpN_of .non sm_non
theorem dpN_str {K : PySem.W.Frag} {H : Hp} {x : Str} (h : PyData.strOk x = true) (l : x.length ≤ 4000) : DpN K H (.str x) := dpN_of (.str x) (sm_str h l)
theorem dpN_same {K : PySem.W.Frag} {H H' : Hp} {v : V} (h : DpN K H v) (s : Same H H') : DpN K H' v := by
  obtain ⟨d, dp, r⟩ := h
  exact ⟨d, dp_same s dp, r⟩
/-! ### a list of exceptions -/
def XV (K : PySem.W.Frag) (H : Hp) (v : V) (x : Str) : Prop := ∃ a, v = .ref a ∧ EXV H (He.ga K x) a
theorem xv_same {K : PySem.W.Frag} {H H' : Hp} {vs : List V} {xs : List Str} (s : Same H H') (h : Paired (XV K H) vs xs) : Paired (XV K H') vs xs := pImp (fun _ _ ⟨a, e, x⟩ => ⟨a, e, x.same s⟩) h
theorem same_two {H : Hp} {a dx : Addr} {o u : HO} (ha : H a = none) (hd : H dx = none) (ne : dx ≠ a) : Same H (upd (upd H dx u) a o) := (same_new hd).trans (same_new (by rw [upd_ne (Ne.symm ne)]; exact ha))
theorem exv_two {H : Hp} {a dx C : Addr} {fs : List (Str × V)} (ne : dx ≠ a) : EXV (upd (upd H dx (exd dx fs)) a (exo a C (some dx))) C a := .full upd_same (by rw [upd_ne ne]; exact upd_same)
end Q7
set_option maxRecDepth 100000
set_option maxHeartbeats 4000000
namespace L88
open PySem PySem.Spec PyProof.Rows L2 Q7
abbrev P : Program := PySem.Challenge.pw_prepaidplans_k88_errors_are_distinct
def plains : List Str := ["InvalidArrows", "InvalidBeginning", "InvalidChains", "InvalidCourse", "InvalidEnd", "InvalidFraction", "InvalidKind", "InvalidName", "InvalidNames", "InvalidNumber", "InvalidPath", "InvalidRow", "InvalidShare", "InvalidTask", "InvalidTick", "InvalidWeights", "InvalidWord", "NotSafe", "NothingRuns", "NothingToUndo", "PlanError"]
def errs : List Str := ["InvalidArrows", "InvalidBeginning", "InvalidChains", "InvalidCourse", "InvalidEnd", "InvalidFates", "InvalidFraction", "InvalidKind", "InvalidLine", "InvalidName", "InvalidNames", "InvalidNumber", "InvalidParts", "InvalidPath", "InvalidPlan", "InvalidRow", "InvalidShare", "InvalidTask", "InvalidTasks", "InvalidText", "InvalidTick", "InvalidWeights", "InvalidWord", "NeverDone", "NotRisky", "NotSafe", "NothingRuns", "NothingToUndo", "Overdue", "TooLarge", "TooMany"]
def errs1 : List Str := ["InvalidArrows", "InvalidBeginning", "InvalidChains", "InvalidCourse", "InvalidEnd", "InvalidFates", "InvalidFraction", "InvalidKind", "InvalidLine", "InvalidName", "InvalidNames", "InvalidNumber", "InvalidParts", "InvalidPath", "InvalidPlan", "InvalidRow", "InvalidShare", "InvalidTask", "InvalidTasks", "InvalidText", "InvalidTick", "InvalidWeights", "InvalidWord", "NeverDone", "NotRisky", "NotSafe", "NothingRuns", "NothingToUndo", "Overdue", "TooLarge", "TooMany", "PlanError"]
theorem bd_index : SupBd "index" := ⟨by decide, by decide, fun _ _ _ _ _ _ _ _ _ _ _ _ _ _ _ _ => ⟨rfl, rfl⟩⟩
theorem bd_limit : SupBd "limit" := ⟨by decide, by decide, fun _ _ _ _ _ _ _ _ _ _ _ _ _ _ _ _ => ⟨rfl, rfl⟩⟩
theorem bd_line : SupBd "line" := ⟨by decide, by decide, fun _ _ _ _ _ _ _ _ _ _ _ _ _ _ _ _ => ⟨rfl, rfl⟩⟩
theorem bd_name : SupBd "name" := ⟨by decide, by decide, fun _ _ _ _ _ _ _ _ _ _ _ _ _ _ _ _ => ⟨rfl, rfl⟩⟩
theorem bd_number : SupBd "number" := ⟨by decide, by decide, fun _ _ _ _ _ _ _ _ _ _ _ _ _ _ _ _ => ⟨rfl, rfl⟩⟩
theorem bd_path : SupBd "path" := ⟨by decide, by decide, fun _ _ _ _ _ _ _ _ _ _ _ _ _ _ _ _ => ⟨rfl, rfl⟩⟩
def top (i : Nat) : Stmt := PySem.Challenge.pw_prepaidplans_k88_errors_are_distinct.main.body.getD i (.Pass ⟨0, 0, 0, 0⟩)
abbrev s__law_bag : Stmt := top 34
abbrev s__law_draw : Stmt := top 35
abbrev s__law_marks : Stmt := top 36
abbrev s__law_fields_right : Stmt := top 37
abbrev s__law_right : Stmt := top 38
abbrev s_law : Stmt := top 39
theorem sc__law_bag : FnScope ["cell", "k"] ["cell", "k"] (defScope s__law_bag) := ⟨rfl, rfl, rfl, by decide +kernel, rfl, by decide +kernel, by decide +kernel⟩
theorem sc__law_draw : FnScope ["bag", "many", "digit", "one"] ["bag", "many"] (defScope s__law_draw) := ⟨rfl, rfl, rfl, by decide +kernel, rfl, by decide +kernel, by decide +kernel⟩
theorem sc__law_marks : FnScope ["e", "marks"] ["e"] (defScope s__law_marks) := ⟨rfl, rfl, rfl, by decide +kernel, rfl, by decide +kernel, by decide +kernel⟩
theorem sc__law_fields_right : FnScope ["amount", "way", "word", "values", "due"] ["amount"] (defScope s__law_fields_right) := ⟨rfl, rfl, rfl, by decide +kernel, rfl, by decide +kernel, by decide +kernel⟩
theorem sc__law_right : FnScope ["message", "amount", "some", "k", "other"] ["message", "amount"] (defScope s__law_right) := ⟨rfl, rfl, rfl, by decide +kernel, rfl, by decide +kernel, by decide +kernel⟩
theorem sc_law : FnScope ["script", "cells", "k", "bag", "message"] ["script"] (defScope s_law) := ⟨rfl, rfl, rfl, by decide +kernel, rfl, by decide +kernel, by decide +kernel⟩
def d__law_bag : He.DefD := ⟨("_law_bag", none), "_law_bag", "_law_bag", defArgs s__law_bag, defBody s__law_bag, defScope s__law_bag, [], []⟩
def d__law_draw : He.DefD := ⟨("_law_draw", none), "_law_draw", "_law_draw", defArgs s__law_draw, defBody s__law_draw, defScope s__law_draw, [], []⟩
def d__law_marks : He.DefD := ⟨("_law_marks", none), "_law_marks", "_law_marks", defArgs s__law_marks, defBody s__law_marks, defScope s__law_marks, [], []⟩
def d__law_fields_right : He.DefD := ⟨("_law_fields_right", none), "_law_fields_right", "_law_fields_right", defArgs s__law_fields_right, defBody s__law_fields_right, defScope s__law_fields_right, [], []⟩
def d__law_right : He.DefD := ⟨("_law_right", none), "_law_right", "_law_right", defArgs s__law_right, defBody s__law_right, defScope s__law_right, [], []⟩
def d_law : He.DefD := ⟨("law", none), "law", "law", defArgs s_law, defBody s_law, defScope s_law, [], []⟩
def fns : List He.DefD := [d__law_bag, d__law_draw, d__law_marks, d__law_fields_right, d__law_right, d_law]
def fas : List He.Fa := [.glo "_law_bag", .glo "_law_draw", .glo "_law_marks", .glo "_law_fields_right", .glo "_law_right", .glo "law", .glo "PlanError", .glo "InvalidFraction", .glo "InvalidRow", .glo "InvalidTick", .glo "InvalidName", .glo "InvalidTask", .glo "InvalidPath", .glo "InvalidCourse", .glo "InvalidWeights", .glo "InvalidKind", .glo "InvalidArrows", .glo "InvalidChains", .glo "InvalidShare", .glo "InvalidNames", .glo "InvalidNumber", .glo "InvalidBeginning", .glo "InvalidWord", .glo "InvalidEnd", .glo "NothingRuns", .glo "NothingToUndo", .glo "NotSafe", .glo "InvalidTasks", .glo "InvalidPlan", .glo "TooLarge", .glo "InvalidText", .glo "InvalidLine", .glo "InvalidFates", .glo "InvalidParts", .glo "NotRisky", .glo "NeverDone", .glo "TooMany", .glo "Overdue", .free "ValueError", .free "isinstance", .free "int", .free "range", .free "len", .free "super"]
def exs : List Tst := [fun K => plains.all fun x => PySem.W.excIn K (He.ga K x) He.veBase "ValueError.__new__" && PySem.W.keepIn K (.ref (He.ga K x)), fun K => errs1.all fun x => tExcC K (He.ga K x), fun K => errs.all fun x => xfB K (He.ga K x), fun K => errs1.all fun x => errs.all fun y => decide (PySem.W.kitOne K (.ref (He.ga K x)) (.ref (He.ga K y)) = some (decide (x = y))), fun K => errs.all fun x => decide (PySem.W.kitOne K (.ref (He.ga K x)) (.ref (He.ga K "PlanError")) = some true), fun K => errs.all fun x => decide (PySem.W.kitOne K (.ref (He.ga K x)) (.type "ValueError") = some true), fun K => supM (P.main.file : Str) K (He.ga K "InvalidTasks") "name" "name", fun K => supM (P.main.file : Str) K (He.ga K "InvalidPlan") "path" "path", fun K => supM (P.main.file : Str) K (He.ga K "TooLarge") "number" "number", fun K => supM (P.main.file : Str) K (He.ga K "InvalidText") "index" "index", fun K => supM (P.main.file : Str) K (He.ga K "InvalidLine") "line" "line", fun K => supM (P.main.file : Str) K (He.ga K "InvalidFates") "path" "path", fun K => supM (P.main.file : Str) K (He.ga K "InvalidParts") "index" "index", fun K => supM (P.main.file : Str) K (He.ga K "NotRisky") "index" "index", fun K => supM (P.main.file : Str) K (He.ga K "NeverDone") "index" "index", fun K => supM (P.main.file : Str) K (He.ga K "TooMany") "limit" "limit", fun K => supM (P.main.file : Str) K (He.ga K "Overdue") "path" "path"]
structure Txt (K : PySem.W.Frag) (mg : Str → Option Value) : Type where
  fd__law_bag : FuncData
  F__law_bag : FunD K "_law_bag" "_law_bag" (defArgs s__law_bag) (defBody s__law_bag) (defScope s__law_bag) [] [] (He.ga K "_law_bag") fd__law_bag
  b__law_bag : Binds K fd__law_bag ["cell", "k"] []
  g__law_bag : mg "_law_bag" = some (.ref (He.ga K "_law_bag"))
  fd__law_draw : FuncData
  F__law_draw : FunD K "_law_draw" "_law_draw" (defArgs s__law_draw) (defBody s__law_draw) (defScope s__law_draw) [] [] (He.ga K "_law_draw") fd__law_draw
  b__law_draw : Binds K fd__law_draw ["bag", "many"] []
  g__law_draw : mg "_law_draw" = some (.ref (He.ga K "_law_draw"))
  fd__law_marks : FuncData
  F__law_marks : FunD K "_law_marks" "_law_marks" (defArgs s__law_marks) (defBody s__law_marks) (defScope s__law_marks) [] [] (He.ga K "_law_marks") fd__law_marks
  b__law_marks : Binds K fd__law_marks ["e"] []
  g__law_marks : mg "_law_marks" = some (.ref (He.ga K "_law_marks"))
  fd__law_fields_right : FuncData
  F__law_fields_right : FunD K "_law_fields_right" "_law_fields_right" (defArgs s__law_fields_right) (defBody s__law_fields_right) (defScope s__law_fields_right) [] [] (He.ga K "_law_fields_right") fd__law_fields_right
  b__law_fields_right : Binds K fd__law_fields_right ["amount"] []
  g__law_fields_right : mg "_law_fields_right" = some (.ref (He.ga K "_law_fields_right"))
  fd__law_right : FuncData
  F__law_right : FunD K "_law_right" "_law_right" (defArgs s__law_right) (defBody s__law_right) (defScope s__law_right) [] [] (He.ga K "_law_right") fd__law_right
  b__law_right : Binds K fd__law_right ["message", "amount"] []
  g__law_right : mg "_law_right" = some (.ref (He.ga K "_law_right"))
  fd_law : FuncData
  F_law : FunD K "law" "law" (defArgs s_law) (defBody s_law) (defScope s_law) [] [] (He.ga K "law") fd_law
  b_law : Binds K fd_law ["script"] []
  g_law : mg "law" = some (.ref (He.ga K "law"))
  g_PlanError : mg "PlanError" = some (.ref (He.ga K "PlanError"))
  g_InvalidFraction : mg "InvalidFraction" = some (.ref (He.ga K "InvalidFraction"))
  g_InvalidRow : mg "InvalidRow" = some (.ref (He.ga K "InvalidRow"))
  g_InvalidTick : mg "InvalidTick" = some (.ref (He.ga K "InvalidTick"))
  g_InvalidName : mg "InvalidName" = some (.ref (He.ga K "InvalidName"))
  g_InvalidTask : mg "InvalidTask" = some (.ref (He.ga K "InvalidTask"))
  g_InvalidPath : mg "InvalidPath" = some (.ref (He.ga K "InvalidPath"))
  g_InvalidCourse : mg "InvalidCourse" = some (.ref (He.ga K "InvalidCourse"))
  g_InvalidWeights : mg "InvalidWeights" = some (.ref (He.ga K "InvalidWeights"))
  g_InvalidKind : mg "InvalidKind" = some (.ref (He.ga K "InvalidKind"))
  g_InvalidArrows : mg "InvalidArrows" = some (.ref (He.ga K "InvalidArrows"))
  g_InvalidChains : mg "InvalidChains" = some (.ref (He.ga K "InvalidChains"))
  g_InvalidShare : mg "InvalidShare" = some (.ref (He.ga K "InvalidShare"))
  g_InvalidNames : mg "InvalidNames" = some (.ref (He.ga K "InvalidNames"))
  g_InvalidNumber : mg "InvalidNumber" = some (.ref (He.ga K "InvalidNumber"))
  g_InvalidBeginning : mg "InvalidBeginning" = some (.ref (He.ga K "InvalidBeginning"))
  g_InvalidWord : mg "InvalidWord" = some (.ref (He.ga K "InvalidWord"))
  g_InvalidEnd : mg "InvalidEnd" = some (.ref (He.ga K "InvalidEnd"))
  g_NothingRuns : mg "NothingRuns" = some (.ref (He.ga K "NothingRuns"))
  g_NothingToUndo : mg "NothingToUndo" = some (.ref (He.ga K "NothingToUndo"))
  g_NotSafe : mg "NotSafe" = some (.ref (He.ga K "NotSafe"))
  g_InvalidTasks : mg "InvalidTasks" = some (.ref (He.ga K "InvalidTasks"))
  g_InvalidPlan : mg "InvalidPlan" = some (.ref (He.ga K "InvalidPlan"))
  g_TooLarge : mg "TooLarge" = some (.ref (He.ga K "TooLarge"))
  g_InvalidText : mg "InvalidText" = some (.ref (He.ga K "InvalidText"))
  g_InvalidLine : mg "InvalidLine" = some (.ref (He.ga K "InvalidLine"))
  g_InvalidFates : mg "InvalidFates" = some (.ref (He.ga K "InvalidFates"))
  g_InvalidParts : mg "InvalidParts" = some (.ref (He.ga K "InvalidParts"))
  g_NotRisky : mg "NotRisky" = some (.ref (He.ga K "NotRisky"))
  g_NeverDone : mg "NeverDone" = some (.ref (He.ga K "NeverDone"))
  g_TooMany : mg "TooMany" = some (.ref (He.ga K "TooMany"))
  g_Overdue : mg "Overdue" = some (.ref (He.ga K "Overdue"))
  m_ValueError : mg "ValueError" = none
  m_isinstance : mg "isinstance" = none
  m_int : mg "int" = none
  m_range : mg "range" = none
  m_len : mg "len" = none
  m_super : mg "super" = none
  plain : ∀ x : Str, x ∈ plains → PySem.W.excIn K (He.ga K x) He.veBase "ValueError.__new__" = true ∧ PySem.W.keepIn K (.ref (He.ga K x)) = true
  ec : ∀ x : Str, x ∈ errs1 → ExcC K (He.ga K x)
  xf : ∀ x : Str, x ∈ errs → XfC K (He.ga K x)
  kit : ∀ x : Str, x ∈ errs1 → ∀ y : Str, y ∈ errs → PySem.W.kitOne K (.ref (He.ga K x)) (.ref (He.ga K y)) = some (decide (x = y))
  kitP : ∀ x : Str, x ∈ errs → PySem.W.kitOne K (.ref (He.ga K x)) (.ref (He.ga K "PlanError")) = some true
  kitV : ∀ x : Str, x ∈ errs → PySem.W.kitOne K (.ref (He.ga K x)) (.type "ValueError") = some true
  M_InvalidTasks : ∃ fd, SupM P K mg (He.ga K "InvalidTasks") (He.ma K (He.ga K "InvalidTasks") "__init__") "name" "name" fd
  M_InvalidPlan : ∃ fd, SupM P K mg (He.ga K "InvalidPlan") (He.ma K (He.ga K "InvalidPlan") "__init__") "path" "path" fd
  M_TooLarge : ∃ fd, SupM P K mg (He.ga K "TooLarge") (He.ma K (He.ga K "TooLarge") "__init__") "number" "number" fd
  M_InvalidText : ∃ fd, SupM P K mg (He.ga K "InvalidText") (He.ma K (He.ga K "InvalidText") "__init__") "index" "index" fd
  M_InvalidLine : ∃ fd, SupM P K mg (He.ga K "InvalidLine") (He.ma K (He.ga K "InvalidLine") "__init__") "line" "line" fd
  M_InvalidFates : ∃ fd, SupM P K mg (He.ga K "InvalidFates") (He.ma K (He.ga K "InvalidFates") "__init__") "path" "path" fd
  M_InvalidParts : ∃ fd, SupM P K mg (He.ga K "InvalidParts") (He.ma K (He.ga K "InvalidParts") "__init__") "index" "index" fd
  M_NotRisky : ∃ fd, SupM P K mg (He.ga K "NotRisky") (He.ma K (He.ga K "NotRisky") "__init__") "index" "index" fd
  M_NeverDone : ∃ fd, SupM P K mg (He.ga K "NeverDone") (He.ma K (He.ga K "NeverDone") "__init__") "index" "index" fd
  M_TooMany : ∃ fd, SupM P K mg (He.ga K "TooMany") (He.ma K (He.ga K "TooMany") "__init__") "limit" "limit" fd
  M_Overdue : ∃ fd, SupM P K mg (He.ga K "Overdue") (He.ma K (He.ga K "Overdue") "__init__") "path" "path" fd
set_option maxHeartbeats 8000000 in
theorem txt {K : PySem.W.Frag} {h : Heap} {mg : Str → Option Value} (X : K.In h) (G : h.Ns mainGlobals mg) {w : World} (ct : He.SaysT fas fns [] w K) (x : (exs.all fun f => f K) = true) : Nonempty (Txt K mg) := by
  have c : He.SaysD fas fns K := ct.d
  obtain ⟨fd__law_bag, F__law_bag⟩ := c.def_ 0 (d := d__law_bag) rfl
  obtain ⟨fd__law_draw, F__law_draw⟩ := c.def_ 1 (d := d__law_draw) rfl
  obtain ⟨fd__law_marks, F__law_marks⟩ := c.def_ 2 (d := d__law_marks) rfl
  obtain ⟨fd__law_fields_right, F__law_fields_right⟩ := c.def_ 3 (d := d__law_fields_right) rfl
  obtain ⟨fd__law_right, F__law_right⟩ := c.def_ 4 (d := d__law_right) rfl
  obtain ⟨fd_law, F_law⟩ := c.def_ 5 (d := d_law) rfl
  exact ⟨{
    fd__law_bag := fd__law_bag,
    F__law_bag := F__law_bag,
    b__law_bag := FunD.bindsN (ps := ["cell", "k"]) F__law_bag fun _ _ _ _ _ _ us hl => match us, hl with | [_, _], _ => rfl,
    g__law_bag := He.glo_ok X G (c.fact 0 (f := .glo "_law_bag") rfl),
    fd__law_draw := fd__law_draw,
    F__law_draw := F__law_draw,
    b__law_draw := FunD.bindsN (ps := ["bag", "many"]) F__law_draw fun _ _ _ _ _ _ us hl => match us, hl with | [_, _], _ => rfl,
    g__law_draw := He.glo_ok X G (c.fact 1 (f := .glo "_law_draw") rfl),
    fd__law_marks := fd__law_marks,
    F__law_marks := F__law_marks,
    b__law_marks := FunD.bindsN (ps := ["e"]) F__law_marks fun _ _ _ _ _ _ us hl => match us, hl with | [_], _ => rfl,
    g__law_marks := He.glo_ok X G (c.fact 2 (f := .glo "_law_marks") rfl),
    fd__law_fields_right := fd__law_fields_right,
    F__law_fields_right := F__law_fields_right,
    b__law_fields_right := FunD.bindsN (ps := ["amount"]) F__law_fields_right fun _ _ _ _ _ _ us hl => match us, hl with | [_], _ => rfl,
    g__law_fields_right := He.glo_ok X G (c.fact 3 (f := .glo "_law_fields_right") rfl),
    fd__law_right := fd__law_right,
    F__law_right := F__law_right,
    b__law_right := FunD.bindsN (ps := ["message", "amount"]) F__law_right fun _ _ _ _ _ _ us hl => match us, hl with | [_, _], _ => rfl,
    g__law_right := He.glo_ok X G (c.fact 4 (f := .glo "_law_right") rfl),
    fd_law := fd_law,
    F_law := F_law,
    b_law := FunD.bindsN (ps := ["script"]) F_law fun _ _ _ _ _ _ us hl => match us, hl with | [_], _ => rfl,
    g_law := He.glo_ok X G (c.fact 5 (f := .glo "law") rfl),
    g_PlanError := He.glo_ok X G (c.fact 6 (f := .glo "PlanError") rfl),
    g_InvalidFraction := He.glo_ok X G (c.fact 7 (f := .glo "InvalidFraction") rfl),
    g_InvalidRow := He.glo_ok X G (c.fact 8 (f := .glo "InvalidRow") rfl),
    g_InvalidTick := He.glo_ok X G (c.fact 9 (f := .glo "InvalidTick") rfl),
    g_InvalidName := He.glo_ok X G (c.fact 10 (f := .glo "InvalidName") rfl),
    g_InvalidTask := He.glo_ok X G (c.fact 11 (f := .glo "InvalidTask") rfl),
    g_InvalidPath := He.glo_ok X G (c.fact 12 (f := .glo "InvalidPath") rfl),
    g_InvalidCourse := He.glo_ok X G (c.fact 13 (f := .glo "InvalidCourse") rfl),
    g_InvalidWeights := He.glo_ok X G (c.fact 14 (f := .glo "InvalidWeights") rfl),
    g_InvalidKind := He.glo_ok X G (c.fact 15 (f := .glo "InvalidKind") rfl),
    g_InvalidArrows := He.glo_ok X G (c.fact 16 (f := .glo "InvalidArrows") rfl),
    g_InvalidChains := He.glo_ok X G (c.fact 17 (f := .glo "InvalidChains") rfl),
    g_InvalidShare := He.glo_ok X G (c.fact 18 (f := .glo "InvalidShare") rfl),
    g_InvalidNames := He.glo_ok X G (c.fact 19 (f := .glo "InvalidNames") rfl),
    g_InvalidNumber := He.glo_ok X G (c.fact 20 (f := .glo "InvalidNumber") rfl),
    g_InvalidBeginning := He.glo_ok X G (c.fact 21 (f := .glo "InvalidBeginning") rfl),
    g_InvalidWord := He.glo_ok X G (c.fact 22 (f := .glo "InvalidWord") rfl),
    g_InvalidEnd := He.glo_ok X G (c.fact 23 (f := .glo "InvalidEnd") rfl),
    g_NothingRuns := He.glo_ok X G (c.fact 24 (f := .glo "NothingRuns") rfl),
    g_NothingToUndo := He.glo_ok X G (c.fact 25 (f := .glo "NothingToUndo") rfl),
    g_NotSafe := He.glo_ok X G (c.fact 26 (f := .glo "NotSafe") rfl),
    g_InvalidTasks := He.glo_ok X G (c.fact 27 (f := .glo "InvalidTasks") rfl),
    g_InvalidPlan := He.glo_ok X G (c.fact 28 (f := .glo "InvalidPlan") rfl),
    g_TooLarge := He.glo_ok X G (c.fact 29 (f := .glo "TooLarge") rfl),
    g_InvalidText := He.glo_ok X G (c.fact 30 (f := .glo "InvalidText") rfl),
    g_InvalidLine := He.glo_ok X G (c.fact 31 (f := .glo "InvalidLine") rfl),
    g_InvalidFates := He.glo_ok X G (c.fact 32 (f := .glo "InvalidFates") rfl),
    g_InvalidParts := He.glo_ok X G (c.fact 33 (f := .glo "InvalidParts") rfl),
    g_NotRisky := He.glo_ok X G (c.fact 34 (f := .glo "NotRisky") rfl),
    g_NeverDone := He.glo_ok X G (c.fact 35 (f := .glo "NeverDone") rfl),
    g_TooMany := He.glo_ok X G (c.fact 36 (f := .glo "TooMany") rfl),
    g_Overdue := He.glo_ok X G (c.fact 37 (f := .glo "Overdue") rfl),
    m_ValueError := He.free_ok X G (c.fact 38 (f := .free "ValueError") rfl),
    m_isinstance := He.free_ok X G (c.fact 39 (f := .free "isinstance") rfl),
    m_int := He.free_ok X G (c.fact 40 (f := .free "int") rfl),
    m_range := He.free_ok X G (c.fact 41 (f := .free "range") rfl),
    m_len := He.free_ok X G (c.fact 42 (f := .free "len") rfl),
    m_super := He.free_ok X G (c.fact 43 (f := .free "super") rfl),
    plain := fun z1 h => He.ba (List.all_eq_true.mp (tst_at x 0 rfl) z1 h),
    ec := fun z1 h => tExcC_ok (List.all_eq_true.mp (tst_at x 1 rfl) z1 h),
    xf := fun z1 h => xfB_ok (List.all_eq_true.mp (tst_at x 2 rfl) z1 h),
    kit := fun z1 h z2 h2 => of_decide_eq_true (List.all_eq_true.mp (List.all_eq_true.mp (tst_at x 3 rfl) z1 h) z2 h2),
    kitP := fun z1 h => of_decide_eq_true (List.all_eq_true.mp (tst_at x 4 rfl) z1 h),
    kitV := fun z1 h => of_decide_eq_true (List.all_eq_true.mp (tst_at x 5 rfl) z1 h),
    M_InvalidTasks := supM_ok bd_name (He.free_ok X G (c.fact 43 (f := .free "super") rfl)) (by decide +kernel) (tst_at x 6 rfl),
    M_InvalidPlan := supM_ok bd_path (He.free_ok X G (c.fact 43 (f := .free "super") rfl)) (by decide +kernel) (tst_at x 7 rfl),
    M_TooLarge := supM_ok bd_number (He.free_ok X G (c.fact 43 (f := .free "super") rfl)) (by decide +kernel) (tst_at x 8 rfl),
    M_InvalidText := supM_ok bd_index (He.free_ok X G (c.fact 43 (f := .free "super") rfl)) (by decide +kernel) (tst_at x 9 rfl),
    M_InvalidLine := supM_ok bd_line (He.free_ok X G (c.fact 43 (f := .free "super") rfl)) (by decide +kernel) (tst_at x 10 rfl),
    M_InvalidFates := supM_ok bd_path (He.free_ok X G (c.fact 43 (f := .free "super") rfl)) (by decide +kernel) (tst_at x 11 rfl),
    M_InvalidParts := supM_ok bd_index (He.free_ok X G (c.fact 43 (f := .free "super") rfl)) (by decide +kernel) (tst_at x 12 rfl),
    M_NotRisky := supM_ok bd_index (He.free_ok X G (c.fact 43 (f := .free "super") rfl)) (by decide +kernel) (tst_at x 13 rfl),
    M_NeverDone := supM_ok bd_index (He.free_ok X G (c.fact 43 (f := .free "super") rfl)) (by decide +kernel) (tst_at x 14 rfl),
    M_TooMany := supM_ok bd_limit (He.free_ok X G (c.fact 43 (f := .free "super") rfl)) (by decide +kernel) (tst_at x 15 rfl),
    M_Overdue := supM_ok bd_path (He.free_ok X G (c.fact 43 (f := .free "super") rfl)) (by decide +kernel) (tst_at x 16 rfl) }⟩
end L88
set_option maxRecDepth 100000
set_option maxHeartbeats 4000000
namespace L88
open PySem PySem.Spec PyProof.Rows L2 Q7
section
variable {w : World} {K : PySem.W.Frag} {mg : Str → Option Value} {base : Heap}
/-! ### the law's own numbers -/
theorem two_le : 2 ≤ sizeLine := by decide
def BagAt (H : Hp) (b : Addr) (c d : Int) : Prop := H b = some (.lst [.int c, .int d])
def spBag : Sp := fun vs H Q _ => ∃ c k : Int, vs = [.int c, .int k] ∧ 0 ≤ k ∧ k < 2 ^ 20 ∧ ∀ b d, H b = none → 0 ≤ d → d < 2 ^ 30 → Q (.ref b) (upd H b (.lst [.int c.natAbs, .int d]))
theorem ok__law_bag (T : Txt K mg) : FnOk P w K mg base CX0 1 (He.ga K "_law_bag") T.fd__law_bag ["cell", "k"] spBag := by
  refine T.F__law_bag.ok sc__law_bag (fun vs H Q E h => ?_) (fun cdv A outer s H vs Q E hr h => ⟨_, PSs.nox
    (pss_cons (ps_if (pt_cmpR op_lt (pv 0) pe_int (nomark _)) (pss_one (ps_ret (pe_lst (pa_cons (pe_un un_neg (pv 0)) (pa_cons (pe_op op_add (pe_op op_mulW pe_int (pv 1)) pe_int) pa_nil))))) pss_nil)
      (pss_one (ps_ret (pe_lst (pa_cons (pv 0) (pa_cons (pe_op op_mulW pe_int (pv 1)) pa_nil)))))), ?_⟩)
  · obtain ⟨c, k, rfl, _⟩ := h
    rfl
  · obtain ⟨c, k, rfl, h0, h1, hQ⟩ := h
    have hm : CMulW 37 k := cmul_of (a := 6) (b := 20) (by decide) (by omega) (by decide)
    refine ⟨_, rfl, _, _, rfl, rfl, _, rfl, ite2 (fun c0 => ?_) fun c0 => ?_⟩
    · have c1 : c < 0 := of_decide_eq_true c0
      refine ⟨_, rfl, _, rfl, _, rfl, _, _, rfl, rfl, hm, _, _, rfl, rfl, two_le, fun l hl => ?_⟩
      have := hQ l (37 * k + 18) hl (by omega) (by omega)
      rw [show (c.natAbs : Int) = -c by omega] at this
      exact this
    · have c1 : ¬ c < 0 := fun q => c0 (decide_eq_true q)
      refine ⟨_, rfl, _, rfl, _, _, rfl, rfl, hm, two_le, fun l hl => ?_⟩
      have := hQ l (37 * k) hl (by omega) (by omega)
      rw [show (c.natAbs : Int) = c by omega] at this
      exact this
theorem upd_upd {H : Hp} {b : Addr} {o p : HO} : upd (upd H b o) b p = upd H b p := by
  funext a
  by_cases h : a = b
  · subst h; rw [upd_same, upd_same]
  · rw [upd_ne h, upd_ne h, upd_ne h]
def spDraw : Sp := fun vs H Q _ => ∃ b c d m, vs = [.ref b, .int m] ∧ BagAt H b c d ∧ 0 ≤ d ∧ d < 2 ^ 40 ∧ 0 < m ∧ m < 2 ^ 31 ∧ ∀ r c' : Int, 0 ≤ r → r < m → Q (.int r) (upd H b (.lst [.int c', .int (d + 1)]))
theorem em_lt {a : Int} {n : Int} (h : 0 < n) (l : n ≤ 2 ^ 31) : (a % n).natAbs < 2 ^ 31 := by
  have h1 := Int.emod_nonneg a (show n ≠ 0 by omega)
  have h2 := Int.emod_lt_of_pos a h
  omega
theorem ok__law_draw (T : Txt K mg) : FnOk P w K mg base CX0 1 (He.ga K "_law_draw") T.fd__law_draw ["bag", "many"] spDraw := by
  refine T.F__law_draw.ok sc__law_draw (fun vs H Q E h => ?_) (fun cdv A outer s H vs Q E hr h => ⟨_, PSs.nox
    (pss_cons (ps_augS (pv 0) pe_int get_list pe_int ip_add set_list)
      (pss_cons (ps_if (pt_cmpR op_ge (pe_ix ix_list (pv 0) pe_int (fun _ _ => rfl)) (pe_op op_pow pe_int pe_int) (nomark _)) (pss_cons (ps_set (i := 2) sc__law_draw.nd rfl (.inl rfl) (pe_op op_mod (pe_callTy call_int1 (by rfl) T.m_int (by decide +kernel) (pa_cons (pe_ix ix_list (pv 0) pe_int (fun _ _ => rfl)) pa_nil)) (pv 1)))
      (pss_cons (ps_asg (pe_op op_fdivA (pe_ix ix_list (pv 0) pe_int (fun _ _ => rfl)) (pv 1)) (pg_sub (pv 0) pe_int set_list))
      (pss_one (ps_ret (pv 2))))) pss_nil)
      (pss_cons (ps_set (i := 3) sc__law_draw.nd rfl (.inl rfl) (pe_op op_mod (pe_callTy call_int1 (by rfl) T.m_int (by decide +kernel) (pa_cons (pe_op op_add (pe_op op_add (pe_op op_mod (pe_callTy call_int1 (by rfl) T.m_int (by decide +kernel) (pa_cons (pe_ix ix_list (pv 0) pe_int (fun _ _ => rfl)) pa_nil)) pe_int) (pe_op op_mulW pe_int (pe_ix ix_list (pv 0) pe_int (fun _ _ => rfl)))) pe_int) pa_nil)) pe_int))
      (pss_cons (ps_set (i := 3) sc__law_draw.nd rfl (.inl rfl) (pe_op op_mod (pe_callTy call_int1 (by rfl) T.m_int (by decide +kernel) (pa_cons (pe_op op_mulW (pv 3) (pv 3)) pa_nil)) pe_int))
      (pss_cons (ps_set (i := 3) sc__law_draw.nd rfl (.inl rfl) (pe_op op_mod (pe_callTy call_int1 (by rfl) T.m_int (by decide +kernel) (pa_cons (pe_op op_add (pv 3) (pe_op op_mulW pe_int (pe_ix ix_list (pv 0) pe_int (fun _ _ => rfl)))) pa_nil)) pe_int))
      (pss_cons (ps_set (i := 3) sc__law_draw.nd rfl (.inl rfl) (pe_op op_mod (pe_callTy call_int1 (by rfl) T.m_int (by decide +kernel) (pa_cons (pe_op op_mulW (pv 3) (pv 3)) pa_nil)) pe_int))
      (pss_one (ps_ret (pe_op op_mod (pe_callTy call_int1 (by rfl) T.m_int (by decide +kernel) (pa_cons (pe_op op_fdivA (pv 3) pe_int) pa_nil)) (pv 1)))))))))), ?_⟩)
  · obtain ⟨b, c, d, m, rfl, _⟩ := h
    rfl
  · obtain ⟨b, c, d, m, rfl, hb, d0, d1, m0, m1, hQ⟩ := h
    have hB : ∀ {c d : Int}, upd H b (.lst [.int c, .int d]) b = some (.lst [.int c, .int d]) := upd_same
    refine ⟨_, rfl, _, _, _, _, rfl, rfl, sqL_of hb, by decide, rfl, ?_⟩
    refine ⟨_, _, rfl, rfl, _, _, _, _, rfl, rfl, hb, rfl, ?_⟩
    have hc : CDivA c m := cdiv_of (b := 31) (by omega) (by omega) (by decide) (by decide)
    have m2 : ∀ {x : Int}, x.natAbs < 2 ^ 31 → CMulW x x := fun h => cmul_of h h (by decide)
    have m3 : ∀ {k : Int}, k.natAbs < 2 ^ 31 → CMulW k (d + 1) := fun h => cmul_of (b := 41) h (by omega) (by decide)
    have e0 : ∀ {a n : Int}, 0 < n → 0 ≤ a % n := fun h => Int.emod_nonneg _ (by omega)
    refine ⟨_, rfl, _, _, _, _, rfl, rfl, sqL_of hB, rfl, _, _, rfl, rfl, ⟨by decide, by decide, by decide⟩, _, _, rfl, rfl, _, rfl, ite2 (fun _ => ?_) fun _ => ?_⟩
    · refine ⟨_, rfl, _, _, _, _, rfl, rfl, sqL_of hB, rfl, .inl ⟨_, rfl, _, rfl, _, _, rfl, rfl, m0, ?_⟩⟩
      refine ⟨_, rfl, _, _, _, _, rfl, rfl, sqL_of hB, rfl, _, rfl, _, _, rfl, rfl, hc, _, rfl, _, _, _, _, rfl, rfl, hB, rfl, _, rfl, ?_⟩
      rw [upd_upd]
      exact hQ _ _ (e0 m0) (Int.emod_lt_of_pos _ m0)
    · refine ⟨_, rfl, _, _, _, _, rfl, rfl, sqL_of hB, rfl, .inl ⟨_, rfl, _, _, rfl, rfl, (by show (0 : Int) < 2147483629; decide), ?_⟩⟩
      refine ⟨_, rfl, _, _, _, _, rfl, rfl, sqL_of hB, rfl, _, _, rfl, rfl, m3 (by decide), _, _, rfl, rfl, _, _, rfl, rfl, .inl ⟨_, rfl, _, _, rfl, rfl, (by show (0 : Int) < 2147483587; decide), ?_⟩⟩
      refine ⟨_, rfl, _, rfl, _, _, rfl, rfl, m2 (em_lt (by decide) (by decide)), .inl ⟨_, rfl, _, _, rfl, rfl, (by show (0 : Int) < 2147483587; decide), ?_⟩⟩
      refine ⟨_, rfl, _, rfl, _, _, _, _, rfl, rfl, sqL_of hB, rfl, _, _, rfl, rfl, m3 (by decide), _, _, rfl, rfl, .inl ⟨_, rfl, _, _, rfl, rfl, (by show (0 : Int) < 2147483563; decide), ?_⟩⟩
      refine ⟨_, rfl, _, rfl, _, _, rfl, rfl, m2 (em_lt (by decide) (by decide)), .inl ⟨_, rfl, _, _, rfl, rfl, (by show (0 : Int) < 2147483563; decide), ?_⟩⟩
      refine ⟨_, rfl, _, _, rfl, rfl, ⟨by decide, by decide⟩, .inl ⟨_, rfl, _, rfl, _, _, rfl, rfl, m0, ?_⟩⟩
      exact hQ _ _ (e0 m0) (Int.emod_lt_of_pos _ m0)
end
end L88
set_option maxRecDepth 100000
set_option maxHeartbeats 4000000
namespace L88
open PySem PySem.Spec PyProof.Rows L2 Q7
section
variable {w : World} {K : PySem.W.Frag} {mg : Str → Option Value} {base : Heap}
/-! ### the marks -/
def spMarks (K : PySem.W.Frag) : Sp := fun vs H Q _ => ∃ a x, vs = [.ref a] ∧ x ∈ errs1 ∧ EXV H (He.ga K x) a ∧ ∀ r H', Same H H' → H' r = some (.lst (errs.map fun y => V.bl (decide (x = y)))) → Q (.ref r) H'
theorem line64 : 64 < sizeLine := by decide
theorem le64 {n : Nat} (h : Nat.ble n 64 = true) : n ≤ sizeLine := Nat.le_trans (Nat.le_of_ble_eq_true h) (Nat.le_of_lt line64)
theorem me (k : Nat) {x : Str} (h : errs[k]? = some x) : x ∈ errs := List.mem_of_getElem? h
abbrev tIs (K : PySem.W.Frag) (c : Addr) : TE := tCB (rIsX K) (tCons (tVar 0) (tCons (tC (.ref c)) tNil))
theorem step2 {a m c1 c2 C : Addr} {b1 b2 : Bool} {L : List V} {H : Hp} {D : Ends} {rest : TS} (hM : H m = some (.lst L)) (hl : L.length + 2 ≤ sizeLine) (ha : EXV H C a) (ec : ExcC K C) (k1 : PySem.W.kitOne K (.ref C) (.ref c1) = some b1) (k2 : PySem.W.kitOne K (.ref C) (.ref c2) = some b2)
    (h : ∀ m' H', Same H H' → H' m' = some (.lst (L ++ [.bl b1, .bl b2])) → rest D [some (.ref a), some (.ref m')] H') :
    tSeq (tAsg (tOp rCat (tVar 1) (tLst (tCons (tIs K c1) (tCons (tIs K c2) tNil)))) (gName 1)) rest D [some (.ref a), some (.ref m)] H := by
  refine ⟨_, rfl, _, rfl, a, _, _, _, _, rfl, ha, ec, .own _, k1, _, rfl, a, _, _, _, _, rfl, ha, ec, .own _, k2, le64 rfl, fun l hl1 => ?_⟩
  refine ⟨m, l, _, _, rfl, rfl, same_new hl1 _ _ hM, upd_same, hl, fun n hn => ?_⟩
  exact h n _ ((same_new hl1).trans (same_new hn)) upd_same
theorem step1 {a m c1 C : Addr} {b1 : Bool} {L : List V} {H : Hp} {D : Ends} {rest : TS} (hM : H m = some (.lst L)) (hl : L.length + 1 ≤ sizeLine) (ha : EXV H C a) (ec : ExcC K C) (k1 : PySem.W.kitOne K (.ref C) (.ref c1) = some b1)
    (h : ∀ m' H', Same H H' → H' m' = some (.lst (L ++ [.bl b1])) → rest D [some (.ref a), some (.ref m')] H') :
    tSeq (tAsg (tOp rCat (tVar 1) (tLst (tCons (tIs K c1) tNil))) (gName 1)) rest D [some (.ref a), some (.ref m)] H := by
  refine ⟨_, rfl, _, rfl, a, _, _, _, _, rfl, ha, ec, .own _, k1, le64 rfl, fun l hl1 => ?_⟩
  refine ⟨m, l, _, _, rfl, rfl, same_new hl1 _ _ hM, upd_same, hl, fun n hn => ?_⟩
  exact h n _ ((same_new hl1).trans (same_new hn)) upd_same
theorem ok__law_marks (T : Txt K mg) : FnOk P w K mg base CX0 2 (He.ga K "_law_marks") T.fd__law_marks ["e"] (spMarks K) := by
  refine T.F__law_marks.ok sc__law_marks (fun vs H Q E h => ?_) (fun cdv A outer s H vs Q E hr h => ⟨_, PSs.nox
    (pss_cons (ps_set (i := 1) sc__law_marks.nd rfl (.inl rfl) (pe_lst pa_nil))
      (pss_cons (ps_set (i := 1) sc__law_marks.nd rfl (.inl rfl) (pe_op op_cat (pv 1) (pe_lst (pa_cons (pe_callB call_isX (by rfl) T.m_isinstance (by decide +kernel) (pa_cons (pv 0) (pa_cons (pe_glob (v := V.ref (He.ga K "InvalidArrows")) rfl T.g_InvalidArrows rfl) pa_nil))) (pa_cons (pe_callB call_isX (by rfl) T.m_isinstance (by decide +kernel) (pa_cons (pv 0) (pa_cons (pe_glob (v := V.ref (He.ga K "InvalidBeginning")) rfl T.g_InvalidBeginning rfl) pa_nil))) pa_nil)))))
      (pss_cons (ps_set (i := 1) sc__law_marks.nd rfl (.inl rfl) (pe_op op_cat (pv 1) (pe_lst (pa_cons (pe_callB call_isX (by rfl) T.m_isinstance (by decide +kernel) (pa_cons (pv 0) (pa_cons (pe_glob (v := V.ref (He.ga K "InvalidChains")) rfl T.g_InvalidChains rfl) pa_nil))) (pa_cons (pe_callB call_isX (by rfl) T.m_isinstance (by decide +kernel) (pa_cons (pv 0) (pa_cons (pe_glob (v := V.ref (He.ga K "InvalidCourse")) rfl T.g_InvalidCourse rfl) pa_nil))) pa_nil)))))
      (pss_cons (ps_set (i := 1) sc__law_marks.nd rfl (.inl rfl) (pe_op op_cat (pv 1) (pe_lst (pa_cons (pe_callB call_isX (by rfl) T.m_isinstance (by decide +kernel) (pa_cons (pv 0) (pa_cons (pe_glob (v := V.ref (He.ga K "InvalidEnd")) rfl T.g_InvalidEnd rfl) pa_nil))) (pa_cons (pe_callB call_isX (by rfl) T.m_isinstance (by decide +kernel) (pa_cons (pv 0) (pa_cons (pe_glob (v := V.ref (He.ga K "InvalidFates")) rfl T.g_InvalidFates rfl) pa_nil))) pa_nil)))))
      (pss_cons (ps_set (i := 1) sc__law_marks.nd rfl (.inl rfl) (pe_op op_cat (pv 1) (pe_lst (pa_cons (pe_callB call_isX (by rfl) T.m_isinstance (by decide +kernel) (pa_cons (pv 0) (pa_cons (pe_glob (v := V.ref (He.ga K "InvalidFraction")) rfl T.g_InvalidFraction rfl) pa_nil))) (pa_cons (pe_callB call_isX (by rfl) T.m_isinstance (by decide +kernel) (pa_cons (pv 0) (pa_cons (pe_glob (v := V.ref (He.ga K "InvalidKind")) rfl T.g_InvalidKind rfl) pa_nil))) pa_nil)))))
      (pss_cons (ps_set (i := 1) sc__law_marks.nd rfl (.inl rfl) (pe_op op_cat (pv 1) (pe_lst (pa_cons (pe_callB call_isX (by rfl) T.m_isinstance (by decide +kernel) (pa_cons (pv 0) (pa_cons (pe_glob (v := V.ref (He.ga K "InvalidLine")) rfl T.g_InvalidLine rfl) pa_nil))) (pa_cons (pe_callB call_isX (by rfl) T.m_isinstance (by decide +kernel) (pa_cons (pv 0) (pa_cons (pe_glob (v := V.ref (He.ga K "InvalidName")) rfl T.g_InvalidName rfl) pa_nil))) pa_nil)))))
      (pss_cons (ps_set (i := 1) sc__law_marks.nd rfl (.inl rfl) (pe_op op_cat (pv 1) (pe_lst (pa_cons (pe_callB call_isX (by rfl) T.m_isinstance (by decide +kernel) (pa_cons (pv 0) (pa_cons (pe_glob (v := V.ref (He.ga K "InvalidNames")) rfl T.g_InvalidNames rfl) pa_nil))) (pa_cons (pe_callB call_isX (by rfl) T.m_isinstance (by decide +kernel) (pa_cons (pv 0) (pa_cons (pe_glob (v := V.ref (He.ga K "InvalidNumber")) rfl T.g_InvalidNumber rfl) pa_nil))) pa_nil)))))
      (pss_cons (ps_set (i := 1) sc__law_marks.nd rfl (.inl rfl) (pe_op op_cat (pv 1) (pe_lst (pa_cons (pe_callB call_isX (by rfl) T.m_isinstance (by decide +kernel) (pa_cons (pv 0) (pa_cons (pe_glob (v := V.ref (He.ga K "InvalidParts")) rfl T.g_InvalidParts rfl) pa_nil))) (pa_cons (pe_callB call_isX (by rfl) T.m_isinstance (by decide +kernel) (pa_cons (pv 0) (pa_cons (pe_glob (v := V.ref (He.ga K "InvalidPath")) rfl T.g_InvalidPath rfl) pa_nil))) pa_nil)))))
      (pss_cons (ps_set (i := 1) sc__law_marks.nd rfl (.inl rfl) (pe_op op_cat (pv 1) (pe_lst (pa_cons (pe_callB call_isX (by rfl) T.m_isinstance (by decide +kernel) (pa_cons (pv 0) (pa_cons (pe_glob (v := V.ref (He.ga K "InvalidPlan")) rfl T.g_InvalidPlan rfl) pa_nil))) (pa_cons (pe_callB call_isX (by rfl) T.m_isinstance (by decide +kernel) (pa_cons (pv 0) (pa_cons (pe_glob (v := V.ref (He.ga K "InvalidRow")) rfl T.g_InvalidRow rfl) pa_nil))) pa_nil)))))
      (pss_cons (ps_set (i := 1) sc__law_marks.nd rfl (.inl rfl) (pe_op op_cat (pv 1) (pe_lst (pa_cons (pe_callB call_isX (by rfl) T.m_isinstance (by decide +kernel) (pa_cons (pv 0) (pa_cons (pe_glob (v := V.ref (He.ga K "InvalidShare")) rfl T.g_InvalidShare rfl) pa_nil))) (pa_cons (pe_callB call_isX (by rfl) T.m_isinstance (by decide +kernel) (pa_cons (pv 0) (pa_cons (pe_glob (v := V.ref (He.ga K "InvalidTask")) rfl T.g_InvalidTask rfl) pa_nil))) pa_nil)))))
      (pss_cons (ps_set (i := 1) sc__law_marks.nd rfl (.inl rfl) (pe_op op_cat (pv 1) (pe_lst (pa_cons (pe_callB call_isX (by rfl) T.m_isinstance (by decide +kernel) (pa_cons (pv 0) (pa_cons (pe_glob (v := V.ref (He.ga K "InvalidTasks")) rfl T.g_InvalidTasks rfl) pa_nil))) (pa_cons (pe_callB call_isX (by rfl) T.m_isinstance (by decide +kernel) (pa_cons (pv 0) (pa_cons (pe_glob (v := V.ref (He.ga K "InvalidText")) rfl T.g_InvalidText rfl) pa_nil))) pa_nil)))))
      (pss_cons (ps_set (i := 1) sc__law_marks.nd rfl (.inl rfl) (pe_op op_cat (pv 1) (pe_lst (pa_cons (pe_callB call_isX (by rfl) T.m_isinstance (by decide +kernel) (pa_cons (pv 0) (pa_cons (pe_glob (v := V.ref (He.ga K "InvalidTick")) rfl T.g_InvalidTick rfl) pa_nil))) (pa_cons (pe_callB call_isX (by rfl) T.m_isinstance (by decide +kernel) (pa_cons (pv 0) (pa_cons (pe_glob (v := V.ref (He.ga K "InvalidWeights")) rfl T.g_InvalidWeights rfl) pa_nil))) pa_nil)))))
      (pss_cons (ps_set (i := 1) sc__law_marks.nd rfl (.inl rfl) (pe_op op_cat (pv 1) (pe_lst (pa_cons (pe_callB call_isX (by rfl) T.m_isinstance (by decide +kernel) (pa_cons (pv 0) (pa_cons (pe_glob (v := V.ref (He.ga K "InvalidWord")) rfl T.g_InvalidWord rfl) pa_nil))) (pa_cons (pe_callB call_isX (by rfl) T.m_isinstance (by decide +kernel) (pa_cons (pv 0) (pa_cons (pe_glob (v := V.ref (He.ga K "NeverDone")) rfl T.g_NeverDone rfl) pa_nil))) pa_nil)))))
      (pss_cons (ps_set (i := 1) sc__law_marks.nd rfl (.inl rfl) (pe_op op_cat (pv 1) (pe_lst (pa_cons (pe_callB call_isX (by rfl) T.m_isinstance (by decide +kernel) (pa_cons (pv 0) (pa_cons (pe_glob (v := V.ref (He.ga K "NotRisky")) rfl T.g_NotRisky rfl) pa_nil))) (pa_cons (pe_callB call_isX (by rfl) T.m_isinstance (by decide +kernel) (pa_cons (pv 0) (pa_cons (pe_glob (v := V.ref (He.ga K "NotSafe")) rfl T.g_NotSafe rfl) pa_nil))) pa_nil)))))
      (pss_cons (ps_set (i := 1) sc__law_marks.nd rfl (.inl rfl) (pe_op op_cat (pv 1) (pe_lst (pa_cons (pe_callB call_isX (by rfl) T.m_isinstance (by decide +kernel) (pa_cons (pv 0) (pa_cons (pe_glob (v := V.ref (He.ga K "NothingRuns")) rfl T.g_NothingRuns rfl) pa_nil))) (pa_cons (pe_callB call_isX (by rfl) T.m_isinstance (by decide +kernel) (pa_cons (pv 0) (pa_cons (pe_glob (v := V.ref (He.ga K "NothingToUndo")) rfl T.g_NothingToUndo rfl) pa_nil))) pa_nil)))))
      (pss_cons (ps_set (i := 1) sc__law_marks.nd rfl (.inl rfl) (pe_op op_cat (pv 1) (pe_lst (pa_cons (pe_callB call_isX (by rfl) T.m_isinstance (by decide +kernel) (pa_cons (pv 0) (pa_cons (pe_glob (v := V.ref (He.ga K "Overdue")) rfl T.g_Overdue rfl) pa_nil))) (pa_cons (pe_callB call_isX (by rfl) T.m_isinstance (by decide +kernel) (pa_cons (pv 0) (pa_cons (pe_glob (v := V.ref (He.ga K "TooLarge")) rfl T.g_TooLarge rfl) pa_nil))) pa_nil)))))
      (pss_cons (ps_set (i := 1) sc__law_marks.nd rfl (.inl rfl) (pe_op op_cat (pv 1) (pe_lst (pa_cons (pe_callB call_isX (by rfl) T.m_isinstance (by decide +kernel) (pa_cons (pv 0) (pa_cons (pe_glob (v := V.ref (He.ga K "TooMany")) rfl T.g_TooMany rfl) pa_nil))) pa_nil))))
      (pss_one (ps_ret (pv 1)))))))))))))))))))), ?_⟩)
  · obtain ⟨a, x, rfl, _⟩ := h
    rfl
  · obtain ⟨a, x, rfl, hx, ha, hQ⟩ := h
    have ec := T.ec x hx
    have kit := T.kit x hx
    refine ⟨le64 rfl, fun m0 hm => ?_⟩
    have sm := same_new (o := .lst []) hm
    have hM := upd_same (H := H) (a := m0) (o := .lst [])
    replace ha := ha.same sm
    generalize upd H m0 (.lst []) = G0 at *
    refine step2 hM (le64 rfl) ha ec (kit _ (me 0 rfl)) (kit _ (me 1 rfl)) fun m1 G1 s1 h1 => ?_
    replace sm := sm.trans s1
    replace ha := ha.same s1
    replace hM : G1 m1 = some (.lst [.bl (decide (x = "InvalidArrows")), .bl (decide (x = "InvalidBeginning"))]) := h1
    clear s1 h1
    refine step2 hM (le64 rfl) ha ec (kit _ (me 2 rfl)) (kit _ (me 3 rfl)) fun m2 G2 s1 h1 => ?_
    replace sm := sm.trans s1
    replace ha := ha.same s1
    replace hM : G2 m2 = some (.lst [.bl (decide (x = "InvalidArrows")), .bl (decide (x = "InvalidBeginning")), .bl (decide (x = "InvalidChains")), .bl (decide (x = "InvalidCourse"))]) := h1
    clear s1 h1
    refine step2 hM (le64 rfl) ha ec (kit _ (me 4 rfl)) (kit _ (me 5 rfl)) fun m3 G3 s1 h1 => ?_
    replace sm := sm.trans s1
    replace ha := ha.same s1
    replace hM : G3 m3 = some (.lst [.bl (decide (x = "InvalidArrows")), .bl (decide (x = "InvalidBeginning")), .bl (decide (x = "InvalidChains")), .bl (decide (x = "InvalidCourse")), .bl (decide (x = "InvalidEnd")), .bl (decide (x = "InvalidFates"))]) := h1
    clear s1 h1
    refine step2 hM (le64 rfl) ha ec (kit _ (me 6 rfl)) (kit _ (me 7 rfl)) fun m4 G4 s1 h1 => ?_
    replace sm := sm.trans s1
    replace ha := ha.same s1
    replace hM : G4 m4 = some (.lst [.bl (decide (x = "InvalidArrows")), .bl (decide (x = "InvalidBeginning")), .bl (decide (x = "InvalidChains")), .bl (decide (x = "InvalidCourse")), .bl (decide (x = "InvalidEnd")), .bl (decide (x = "InvalidFates")), .bl (decide (x = "InvalidFraction")), .bl (decide (x = "InvalidKind"))]) := h1
    clear s1 h1
    refine step2 hM (le64 rfl) ha ec (kit _ (me 8 rfl)) (kit _ (me 9 rfl)) fun m5 G5 s1 h1 => ?_
    replace sm := sm.trans s1
    replace ha := ha.same s1
    replace hM : G5 m5 = some (.lst [.bl (decide (x = "InvalidArrows")), .bl (decide (x = "InvalidBeginning")), .bl (decide (x = "InvalidChains")), .bl (decide (x = "InvalidCourse")), .bl (decide (x = "InvalidEnd")), .bl (decide (x = "InvalidFates")), .bl (decide (x = "InvalidFraction")), .bl (decide (x = "InvalidKind")), .bl (decide (x = "InvalidLine")), .bl (decide (x = "InvalidName"))]) := h1
    clear s1 h1
    refine step2 hM (le64 rfl) ha ec (kit _ (me 10 rfl)) (kit _ (me 11 rfl)) fun m6 G6 s1 h1 => ?_
    replace sm := sm.trans s1
    replace ha := ha.same s1
    replace hM : G6 m6 = some (.lst [.bl (decide (x = "InvalidArrows")), .bl (decide (x = "InvalidBeginning")), .bl (decide (x = "InvalidChains")), .bl (decide (x = "InvalidCourse")), .bl (decide (x = "InvalidEnd")), .bl (decide (x = "InvalidFates")), .bl (decide (x = "InvalidFraction")), .bl (decide (x = "InvalidKind")), .bl (decide (x = "InvalidLine")), .bl (decide (x = "InvalidName")), .bl (decide (x = "InvalidNames")), .bl (decide (x = "InvalidNumber"))]) := h1
    clear s1 h1
    refine step2 hM (le64 rfl) ha ec (kit _ (me 12 rfl)) (kit _ (me 13 rfl)) fun m7 G7 s1 h1 => ?_
    replace sm := sm.trans s1
    replace ha := ha.same s1
    replace hM : G7 m7 = some (.lst [.bl (decide (x = "InvalidArrows")), .bl (decide (x = "InvalidBeginning")), .bl (decide (x = "InvalidChains")), .bl (decide (x = "InvalidCourse")), .bl (decide (x = "InvalidEnd")), .bl (decide (x = "InvalidFates")), .bl (decide (x = "InvalidFraction")), .bl (decide (x = "InvalidKind")), .bl (decide (x = "InvalidLine")), .bl (decide (x = "InvalidName")), .bl (decide (x = "InvalidNames")), .bl (decide (x = "InvalidNumber")), .bl (decide (x = "InvalidParts")), .bl (decide (x = "InvalidPath"))]) := h1
    clear s1 h1
    refine step2 hM (le64 rfl) ha ec (kit _ (me 14 rfl)) (kit _ (me 15 rfl)) fun m8 G8 s1 h1 => ?_
    replace sm := sm.trans s1
    replace ha := ha.same s1
    replace hM : G8 m8 = some (.lst [.bl (decide (x = "InvalidArrows")), .bl (decide (x = "InvalidBeginning")), .bl (decide (x = "InvalidChains")), .bl (decide (x = "InvalidCourse")), .bl (decide (x = "InvalidEnd")), .bl (decide (x = "InvalidFates")), .bl (decide (x = "InvalidFraction")), .bl (decide (x = "InvalidKind")), .bl (decide (x = "InvalidLine")), .bl (decide (x = "InvalidName")), .bl (decide (x = "InvalidNames")), .bl (decide (x = "InvalidNumber")), .bl (decide (x = "InvalidParts")), .bl (decide (x = "InvalidPath")), .bl (decide (x = "InvalidPlan")), .bl (decide (x = "InvalidRow"))]) := h1
    clear s1 h1
    refine step2 hM (le64 rfl) ha ec (kit _ (me 16 rfl)) (kit _ (me 17 rfl)) fun m9 G9 s1 h1 => ?_
    replace sm := sm.trans s1
    replace ha := ha.same s1
    replace hM : G9 m9 = some (.lst [.bl (decide (x = "InvalidArrows")), .bl (decide (x = "InvalidBeginning")), .bl (decide (x = "InvalidChains")), .bl (decide (x = "InvalidCourse")), .bl (decide (x = "InvalidEnd")), .bl (decide (x = "InvalidFates")), .bl (decide (x = "InvalidFraction")), .bl (decide (x = "InvalidKind")), .bl (decide (x = "InvalidLine")), .bl (decide (x = "InvalidName")), .bl (decide (x = "InvalidNames")), .bl (decide (x = "InvalidNumber")), .bl (decide (x = "InvalidParts")), .bl (decide (x = "InvalidPath")), .bl (decide (x = "InvalidPlan")), .bl (decide (x = "InvalidRow")), .bl (decide (x = "InvalidShare")), .bl (decide (x = "InvalidTask"))]) := h1
    clear s1 h1
    refine step2 hM (le64 rfl) ha ec (kit _ (me 18 rfl)) (kit _ (me 19 rfl)) fun m10 G10 s1 h1 => ?_
    replace sm := sm.trans s1
    replace ha := ha.same s1
    replace hM : G10 m10 = some (.lst [.bl (decide (x = "InvalidArrows")), .bl (decide (x = "InvalidBeginning")), .bl (decide (x = "InvalidChains")), .bl (decide (x = "InvalidCourse")), .bl (decide (x = "InvalidEnd")), .bl (decide (x = "InvalidFates")), .bl (decide (x = "InvalidFraction")), .bl (decide (x = "InvalidKind")), .bl (decide (x = "InvalidLine")), .bl (decide (x = "InvalidName")), .bl (decide (x = "InvalidNames")), .bl (decide (x = "InvalidNumber")), .bl (decide (x = "InvalidParts")), .bl (decide (x = "InvalidPath")), .bl (decide (x = "InvalidPlan")), .bl (decide (x = "InvalidRow")), .bl (decide (x = "InvalidShare")), .bl (decide (x = "InvalidTask")), .bl (decide (x = "InvalidTasks")), .bl (decide (x = "InvalidText"))]) := h1
    clear s1 h1
    refine step2 hM (le64 rfl) ha ec (kit _ (me 20 rfl)) (kit _ (me 21 rfl)) fun m11 G11 s1 h1 => ?_
    replace sm := sm.trans s1
    replace ha := ha.same s1
    replace hM : G11 m11 = some (.lst [.bl (decide (x = "InvalidArrows")), .bl (decide (x = "InvalidBeginning")), .bl (decide (x = "InvalidChains")), .bl (decide (x = "InvalidCourse")), .bl (decide (x = "InvalidEnd")), .bl (decide (x = "InvalidFates")), .bl (decide (x = "InvalidFraction")), .bl (decide (x = "InvalidKind")), .bl (decide (x = "InvalidLine")), .bl (decide (x = "InvalidName")), .bl (decide (x = "InvalidNames")), .bl (decide (x = "InvalidNumber")), .bl (decide (x = "InvalidParts")), .bl (decide (x = "InvalidPath")), .bl (decide (x = "InvalidPlan")), .bl (decide (x = "InvalidRow")), .bl (decide (x = "InvalidShare")), .bl (decide (x = "InvalidTask")), .bl (decide (x = "InvalidTasks")), .bl (decide (x = "InvalidText")), .bl (decide (x = "InvalidTick")), .bl (decide (x = "InvalidWeights"))]) := h1
    clear s1 h1
    refine step2 hM (le64 rfl) ha ec (kit _ (me 22 rfl)) (kit _ (me 23 rfl)) fun m12 G12 s1 h1 => ?_
    replace sm := sm.trans s1
    replace ha := ha.same s1
    replace hM : G12 m12 = some (.lst [.bl (decide (x = "InvalidArrows")), .bl (decide (x = "InvalidBeginning")), .bl (decide (x = "InvalidChains")), .bl (decide (x = "InvalidCourse")), .bl (decide (x = "InvalidEnd")), .bl (decide (x = "InvalidFates")), .bl (decide (x = "InvalidFraction")), .bl (decide (x = "InvalidKind")), .bl (decide (x = "InvalidLine")), .bl (decide (x = "InvalidName")), .bl (decide (x = "InvalidNames")), .bl (decide (x = "InvalidNumber")), .bl (decide (x = "InvalidParts")), .bl (decide (x = "InvalidPath")), .bl (decide (x = "InvalidPlan")), .bl (decide (x = "InvalidRow")), .bl (decide (x = "InvalidShare")), .bl (decide (x = "InvalidTask")), .bl (decide (x = "InvalidTasks")), .bl (decide (x = "InvalidText")), .bl (decide (x = "InvalidTick")), .bl (decide (x = "InvalidWeights")), .bl (decide (x = "InvalidWord")), .bl (decide (x = "NeverDone"))]) := h1
    clear s1 h1
    refine step2 hM (le64 rfl) ha ec (kit _ (me 24 rfl)) (kit _ (me 25 rfl)) fun m13 G13 s1 h1 => ?_
    replace sm := sm.trans s1
    replace ha := ha.same s1
    replace hM : G13 m13 = some (.lst [.bl (decide (x = "InvalidArrows")), .bl (decide (x = "InvalidBeginning")), .bl (decide (x = "InvalidChains")), .bl (decide (x = "InvalidCourse")), .bl (decide (x = "InvalidEnd")), .bl (decide (x = "InvalidFates")), .bl (decide (x = "InvalidFraction")), .bl (decide (x = "InvalidKind")), .bl (decide (x = "InvalidLine")), .bl (decide (x = "InvalidName")), .bl (decide (x = "InvalidNames")), .bl (decide (x = "InvalidNumber")), .bl (decide (x = "InvalidParts")), .bl (decide (x = "InvalidPath")), .bl (decide (x = "InvalidPlan")), .bl (decide (x = "InvalidRow")), .bl (decide (x = "InvalidShare")), .bl (decide (x = "InvalidTask")), .bl (decide (x = "InvalidTasks")), .bl (decide (x = "InvalidText")), .bl (decide (x = "InvalidTick")), .bl (decide (x = "InvalidWeights")), .bl (decide (x = "InvalidWord")), .bl (decide (x = "NeverDone")), .bl (decide (x = "NotRisky")), .bl (decide (x = "NotSafe"))]) := h1
    clear s1 h1
    refine step2 hM (le64 rfl) ha ec (kit _ (me 26 rfl)) (kit _ (me 27 rfl)) fun m14 G14 s1 h1 => ?_
    replace sm := sm.trans s1
    replace ha := ha.same s1
    replace hM : G14 m14 = some (.lst [.bl (decide (x = "InvalidArrows")), .bl (decide (x = "InvalidBeginning")), .bl (decide (x = "InvalidChains")), .bl (decide (x = "InvalidCourse")), .bl (decide (x = "InvalidEnd")), .bl (decide (x = "InvalidFates")), .bl (decide (x = "InvalidFraction")), .bl (decide (x = "InvalidKind")), .bl (decide (x = "InvalidLine")), .bl (decide (x = "InvalidName")), .bl (decide (x = "InvalidNames")), .bl (decide (x = "InvalidNumber")), .bl (decide (x = "InvalidParts")), .bl (decide (x = "InvalidPath")), .bl (decide (x = "InvalidPlan")), .bl (decide (x = "InvalidRow")), .bl (decide (x = "InvalidShare")), .bl (decide (x = "InvalidTask")), .bl (decide (x = "InvalidTasks")), .bl (decide (x = "InvalidText")), .bl (decide (x = "InvalidTick")), .bl (decide (x = "InvalidWeights")), .bl (decide (x = "InvalidWord")), .bl (decide (x = "NeverDone")), .bl (decide (x = "NotRisky")), .bl (decide (x = "NotSafe")), .bl (decide (x = "NothingRuns")), .bl (decide (x = "NothingToUndo"))]) := h1
    clear s1 h1
    refine step2 hM (le64 rfl) ha ec (kit _ (me 28 rfl)) (kit _ (me 29 rfl)) fun m15 G15 s1 h1 => ?_
    replace sm := sm.trans s1
    replace ha := ha.same s1
    replace hM : G15 m15 = some (.lst [.bl (decide (x = "InvalidArrows")), .bl (decide (x = "InvalidBeginning")), .bl (decide (x = "InvalidChains")), .bl (decide (x = "InvalidCourse")), .bl (decide (x = "InvalidEnd")), .bl (decide (x = "InvalidFates")), .bl (decide (x = "InvalidFraction")), .bl (decide (x = "InvalidKind")), .bl (decide (x = "InvalidLine")), .bl (decide (x = "InvalidName")), .bl (decide (x = "InvalidNames")), .bl (decide (x = "InvalidNumber")), .bl (decide (x = "InvalidParts")), .bl (decide (x = "InvalidPath")), .bl (decide (x = "InvalidPlan")), .bl (decide (x = "InvalidRow")), .bl (decide (x = "InvalidShare")), .bl (decide (x = "InvalidTask")), .bl (decide (x = "InvalidTasks")), .bl (decide (x = "InvalidText")), .bl (decide (x = "InvalidTick")), .bl (decide (x = "InvalidWeights")), .bl (decide (x = "InvalidWord")), .bl (decide (x = "NeverDone")), .bl (decide (x = "NotRisky")), .bl (decide (x = "NotSafe")), .bl (decide (x = "NothingRuns")), .bl (decide (x = "NothingToUndo")), .bl (decide (x = "Overdue")), .bl (decide (x = "TooLarge"))]) := h1
    clear s1 h1
    refine step1 hM (le64 rfl) ha ec (kit _ (me 30 rfl)) fun m16 G16 s1 h1 => ?_
    replace sm := sm.trans s1
    replace ha := ha.same s1
    replace hM : G16 m16 = some (.lst [.bl (decide (x = "InvalidArrows")), .bl (decide (x = "InvalidBeginning")), .bl (decide (x = "InvalidChains")), .bl (decide (x = "InvalidCourse")), .bl (decide (x = "InvalidEnd")), .bl (decide (x = "InvalidFates")), .bl (decide (x = "InvalidFraction")), .bl (decide (x = "InvalidKind")), .bl (decide (x = "InvalidLine")), .bl (decide (x = "InvalidName")), .bl (decide (x = "InvalidNames")), .bl (decide (x = "InvalidNumber")), .bl (decide (x = "InvalidParts")), .bl (decide (x = "InvalidPath")), .bl (decide (x = "InvalidPlan")), .bl (decide (x = "InvalidRow")), .bl (decide (x = "InvalidShare")), .bl (decide (x = "InvalidTask")), .bl (decide (x = "InvalidTasks")), .bl (decide (x = "InvalidText")), .bl (decide (x = "InvalidTick")), .bl (decide (x = "InvalidWeights")), .bl (decide (x = "InvalidWord")), .bl (decide (x = "NeverDone")), .bl (decide (x = "NotRisky")), .bl (decide (x = "NotSafe")), .bl (decide (x = "NothingRuns")), .bl (decide (x = "NothingToUndo")), .bl (decide (x = "Overdue")), .bl (decide (x = "TooLarge")), .bl (decide (x = "TooMany"))]) := h1
    clear s1 h1
    have fin : errs.map (fun y => V.bl (decide (x = y))) = [.bl (decide (x = "InvalidArrows")), .bl (decide (x = "InvalidBeginning")), .bl (decide (x = "InvalidChains")), .bl (decide (x = "InvalidCourse")), .bl (decide (x = "InvalidEnd")), .bl (decide (x = "InvalidFates")), .bl (decide (x = "InvalidFraction")), .bl (decide (x = "InvalidKind")), .bl (decide (x = "InvalidLine")), .bl (decide (x = "InvalidName")), .bl (decide (x = "InvalidNames")), .bl (decide (x = "InvalidNumber")), .bl (decide (x = "InvalidParts")), .bl (decide (x = "InvalidPath")), .bl (decide (x = "InvalidPlan")), .bl (decide (x = "InvalidRow")), .bl (decide (x = "InvalidShare")), .bl (decide (x = "InvalidTask")), .bl (decide (x = "InvalidTasks")), .bl (decide (x = "InvalidText")), .bl (decide (x = "InvalidTick")), .bl (decide (x = "InvalidWeights")), .bl (decide (x = "InvalidWord")), .bl (decide (x = "NeverDone")), .bl (decide (x = "NotRisky")), .bl (decide (x = "NotSafe")), .bl (decide (x = "NothingRuns")), .bl (decide (x = "NothingToUndo")), .bl (decide (x = "Overdue")), .bl (decide (x = "TooLarge")), .bl (decide (x = "TooMany"))] := rfl
    rw [← fin] at hM
    exact ⟨_, rfl, hQ _ _ sm hM⟩
end
end L88
set_option maxRecDepth 100000
set_option maxHeartbeats 4000000
namespace L88
open PySem PySem.Spec PyProof.Rows L2 Q7
section
variable {w : World} {K : PySem.W.Frag} {mg : Str → Option Value} {base : Heap}
/-! ### the fields -/
def spFields : Sp := fun vs H Q _ => ∃ n : Int, vs = [.int n] ∧ 0 ≤ n ∧ n < 2 ^ 31 ∧ ∀ H', Same H H' → Q (.bl true) H'
/-- t gives v, the heap grows -/
def Gv (H0 : Hp) (σ : L2.St) (v : V) (t : TE) : Prop := ∀ H1 Q, Same H0 H1 → (∀ H2, Same H1 H2 → Q v H2) → t σ H1 Q
theorem gv_f {H0 : Hp} {σ : L2.St} {v : V} {C : Addr} {f : Str} {i : Nat} (hσ : σ[i]? = some (some v)) (hd : DpN K H0 v) (xf : XfC K C) (nof : PySem.W.findIn K (.ref C) f = some none) : Gv H0 σ v (tXfv K f (tXNew K C f (tVar i))) :=
  fun H1 Q s h => ⟨v, hσ, dpN_same hd s, fun a dx ha hdx ne => ⟨a, C, dx, _, v, rfl, xf, nof, upd_same, by rw [upd_ne ne]; exact upd_same, by simp [List.lookup], h _ (same_two ha hdx ne)⟩⟩
theorem vs3 {t1 t2 t3 : TE} {σ : L2.St} {v1 v2 v3 : V} {L : List V} {H : Hp} {D : Ends} {rest : TS} {i : Nat} {m : Addr} (σ' : Addr → L2.St) (hσ : σ[i]? = some (some (.ref m))) (hs : ∀ m', σ.set i (some (.ref m')) = σ' m') (hM : H m = some (.lst L)) (hl : L.length + 3 ≤ sizeLine)
    (g1 : Gv H σ v1 t1) (g2 : Gv H σ v2 t2) (g3 : Gv H σ v3 t3) (h : ∀ m' H', Same H H' → H' m' = some (.lst (L ++ [v1, v2, v3])) → rest D (σ' m') H') :
    tSeq (tAsg (tOp rCat (tVar i) (tLst (tCons t1 (tCons t2 (tCons t3 tNil))))) (gName i)) rest D σ H := by
  refine ⟨_, hσ, g1 _ _ (fun _ _ e => e) fun H1 s1 => g2 _ _ s1 fun H2 s2 => g3 _ _ (s1.trans s2) fun H3 s3 => ⟨le64 rfl, fun l hl1 => ?_⟩⟩
  have s : Same H H3 := (s1.trans s2).trans s3
  refine ⟨m, l, _, _, rfl, rfl, same_new hl1 _ _ (s _ _ hM), upd_same, hl, fun n hn => ?_⟩
  show rest D (σ.set i (some (.ref n))) _
  rw [hs]
  exact h n _ ((s.trans (same_new hl1)).trans (same_new hn)) upd_same
theorem vs2 {t1 t2 : TE} {σ : L2.St} {v1 v2 : V} {L : List V} {H : Hp} {D : Ends} {rest : TS} {i : Nat} {m : Addr} (σ' : Addr → L2.St) (hσ : σ[i]? = some (some (.ref m))) (hs : ∀ m', σ.set i (some (.ref m')) = σ' m') (hM : H m = some (.lst L)) (hl : L.length + 2 ≤ sizeLine)
    (g1 : Gv H σ v1 t1) (g2 : Gv H σ v2 t2) (h : ∀ m' H', Same H H' → H' m' = some (.lst (L ++ [v1, v2])) → rest D (σ' m') H') :
    tSeq (tAsg (tOp rCat (tVar i) (tLst (tCons t1 (tCons t2 tNil)))) (gName i)) rest D σ H := by
  refine ⟨_, hσ, g1 _ _ (fun _ _ e => e) fun H1 s1 => g2 _ _ s1 fun H2 s2 => ⟨le64 rfl, fun l hl1 => ?_⟩⟩
  have s : Same H H2 := s1.trans s2
  refine ⟨m, l, _, _, rfl, rfl, same_new hl1 _ _ (s _ _ hM), upd_same, hl, fun n hn => ?_⟩
  show rest D (σ.set i (some (.ref n))) _
  rw [hs]
  exact h n _ ((s.trans (same_new hl1)).trans (same_new hn)) upd_same
theorem word_at {r : Int} (h0 : 0 ≤ r) (h1 : r < 3) : ∃ z : Str, atI [V.str "a", V.str "task", V.str "withins"] r = some (.str z) ∧ PyData.strOk z = true ∧ z.length ≤ 4000 := by
  have h : r = 0 ∨ r = 1 ∨ r = 2 := by omega
  rcases h with rfl | rfl | rfl
  · exact ⟨_, rfl, by decide +kernel, by decide +kernel⟩
  · exact ⟨_, rfl, by decide +kernel, by decide +kernel⟩
  · exact ⟨_, rfl, by decide +kernel, by decide +kernel⟩
theorem way_dp {H : Hp} {w : Addr} {r : Int} (W : SqT K H w [.int r, .int 1]) : Dp K H (.ref w) (.tuple [.int r, .int 1]) := .tup W (.cons (.int _) (.cons (.int _) .nil))
theorem shS {i : Int} (h : i.natAbs < 4 := by decide) : ShI i := Nat.lt_of_lt_of_le h (by decide)
theorem way_dn {H : Hp} {w : Addr} {r : Int} (W : SqT K H w [.int r, .int 1]) (h : ShI r) : DpN K H (.ref w) := dpN_of (way_dp W) (sm_tup (smA_cons (sm_int h) (smA_cons (sm_int (shS (i := 1))) smA_nil)))
theorem ok__law_fields_right (T : Txt K mg) : FnG P w K mg base 8 (He.ga K "_law_fields_right") T.fd__law_fields_right ["amount"] spFields := by
  refine okG T.F__law_fields_right sc__law_fields_right (fun vs H Q E h => ?_) (fun cdv A outer s H vs Q E g hr h => ⟨_, PSs.nox
    (pss_cons (ps_set (i := 1) sc__law_fields_right.nd rfl (.inl rfl) (pe_tup (pa_cons (pe_op op_mod (pe_callTy call_int1 (by rfl) T.m_int (by decide +kernel) (pa_cons (pv 0) pa_nil)) pe_int) (pa_cons pe_int pa_nil))))
      (pss_cons (ps_set (i := 2) sc__law_fields_right.nd rfl (.inl rfl) (pe_ix ix_list (pe_lst (pa_cons pe_str (pa_cons pe_str (pa_cons pe_str pa_nil)))) (pe_op op_mod (pe_callTy call_int1 (by rfl) T.m_int (by decide +kernel) (pa_cons (pv 0) pa_nil)) pe_int) (fun _ _ => rfl)))
      (pss_cons (ps_set (i := 3) sc__law_fields_right.nd rfl (.inl rfl) (pe_lst (pa_cons (pe_xfv (pe_sup T.M_InvalidTasks.choose_spec (hr.mono (by decide)) g (by rfl) T.g_InvalidTasks (pv 2))) (pa_cons (pe_xfv (pe_supK T.M_InvalidTasks.choose_spec (hr.mono (by decide)) g (by rfl) T.g_InvalidTasks (pk_cons (pv 2) pk_nil))) pa_nil))))
      (pss_cons (ps_set (i := 4) sc__law_fields_right.nd rfl (.inl rfl) (pe_op op_rep (pe_lst (pa_cons (pv 2) pa_nil)) pe_int))
      (pss_cons (ps_set (i := 3) sc__law_fields_right.nd rfl (.inl rfl) (pe_op op_cat (pv 3) (pe_lst (pa_cons (pe_xfv (pe_sup T.M_InvalidPlan.choose_spec (hr.mono (by decide)) g (by rfl) T.g_InvalidPlan (pv 1))) (pa_cons (pe_xfv (pe_supK T.M_InvalidPlan.choose_spec (hr.mono (by decide)) g (by rfl) T.g_InvalidPlan (pk_cons (pv 1) pk_nil))) (pa_cons (pe_xfv (pe_sup T.M_InvalidFates.choose_spec (hr.mono (by decide)) g (by rfl) T.g_InvalidFates (pv 1))) pa_nil))))))
      (pss_cons (ps_set (i := 3) sc__law_fields_right.nd rfl (.inl rfl) (pe_op op_cat (pv 3) (pe_lst (pa_cons (pe_xfv (pe_supK T.M_InvalidFates.choose_spec (hr.mono (by decide)) g (by rfl) T.g_InvalidFates (pk_cons (pv 1) pk_nil))) (pa_cons (pe_xfv (pe_sup T.M_Overdue.choose_spec (hr.mono (by decide)) g (by rfl) T.g_Overdue (pv 1))) (pa_cons (pe_xfv (pe_supK T.M_Overdue.choose_spec (hr.mono (by decide)) g (by rfl) T.g_Overdue (pk_cons (pv 1) pk_nil))) pa_nil))))))
      (pss_cons (ps_set (i := 4) sc__law_fields_right.nd rfl (.inl rfl) (pe_op op_cat (pv 4) (pe_op op_rep (pe_lst (pa_cons (pv 1) pa_nil)) pe_int)))
      (pss_cons (ps_set (i := 3) sc__law_fields_right.nd rfl (.inl rfl) (pe_op op_cat (pv 3) (pe_lst (pa_cons (pe_xfv (pe_sup T.M_TooLarge.choose_spec (hr.mono (by decide)) g (by rfl) T.g_TooLarge (pv 0))) (pa_cons (pe_xfv (pe_supK T.M_TooLarge.choose_spec (hr.mono (by decide)) g (by rfl) T.g_TooLarge (pk_cons (pv 0) pk_nil))) (pa_cons (pe_xfv (pe_sup T.M_TooMany.choose_spec (hr.mono (by decide)) g (by rfl) T.g_TooMany (pv 0))) pa_nil))))))
      (pss_cons (ps_set (i := 3) sc__law_fields_right.nd rfl (.inl rfl) (pe_op op_cat (pv 3) (pe_lst (pa_cons (pe_xfv (pe_supK T.M_TooMany.choose_spec (hr.mono (by decide)) g (by rfl) T.g_TooMany (pk_cons (pv 0) pk_nil))) (pa_cons (pe_xfv (pe_sup T.M_InvalidText.choose_spec (hr.mono (by decide)) g (by rfl) T.g_InvalidText (pv 0))) (pa_cons (pe_xfv (pe_supK T.M_InvalidText.choose_spec (hr.mono (by decide)) g (by rfl) T.g_InvalidText (pk_cons (pv 0) pk_nil))) pa_nil))))))
      (pss_cons (ps_set (i := 3) sc__law_fields_right.nd rfl (.inl rfl) (pe_op op_cat (pv 3) (pe_lst (pa_cons (pe_xfv (pe_sup T.M_InvalidLine.choose_spec (hr.mono (by decide)) g (by rfl) T.g_InvalidLine (pv 0))) (pa_cons (pe_xfv (pe_supK T.M_InvalidLine.choose_spec (hr.mono (by decide)) g (by rfl) T.g_InvalidLine (pk_cons (pv 0) pk_nil))) (pa_cons (pe_xfv (pe_sup T.M_InvalidParts.choose_spec (hr.mono (by decide)) g (by rfl) T.g_InvalidParts (pv 0))) pa_nil))))))
      (pss_cons (ps_set (i := 3) sc__law_fields_right.nd rfl (.inl rfl) (pe_op op_cat (pv 3) (pe_lst (pa_cons (pe_xfv (pe_supK T.M_InvalidParts.choose_spec (hr.mono (by decide)) g (by rfl) T.g_InvalidParts (pk_cons (pv 0) pk_nil))) (pa_cons (pe_xfv (pe_sup T.M_NotRisky.choose_spec (hr.mono (by decide)) g (by rfl) T.g_NotRisky (pv 0))) (pa_cons (pe_xfv (pe_supK T.M_NotRisky.choose_spec (hr.mono (by decide)) g (by rfl) T.g_NotRisky (pk_cons (pv 0) pk_nil))) pa_nil))))))
      (pss_cons (ps_set (i := 3) sc__law_fields_right.nd rfl (.inl rfl) (pe_op op_cat (pv 3) (pe_lst (pa_cons (pe_xfv (pe_sup T.M_NeverDone.choose_spec (hr.mono (by decide)) g (by rfl) T.g_NeverDone (pv 0))) (pa_cons (pe_xfv (pe_supK T.M_NeverDone.choose_spec (hr.mono (by decide)) g (by rfl) T.g_NeverDone (pk_cons (pv 0) pk_nil))) pa_nil)))))
      (pss_one (ps_ret (pe_cmpR (op_eqD hr.units) (pv 3) (pe_op op_cat (pv 4) (pe_op op_rep (pe_lst (pa_cons (pv 0) pa_nil)) pe_int)) (nomark _)))))))))))))))), ?_⟩)
  · obtain ⟨n, rfl, _⟩ := h
    rfl
  · obtain ⟨n, rfl, h0, h1, hQ⟩ := h
    have r0 := Int.emod_nonneg n (show (4 : Int) ≠ 0 by decide)
    have r1 := Int.emod_lt_of_pos n (show (0 : Int) < 4 by decide)
    have q0 := Int.emod_nonneg n (show (3 : Int) ≠ 0 by decide)
    have q1 := Int.emod_lt_of_pos n (show (0 : Int) < 3 by decide)
    have sr : ShI (n % 4) := Nat.lt_of_lt_of_le (show (n % 4).natAbs < 2 ^ 2 by omega) (pow_le' (by decide))
    have sn : ShI n := Nat.lt_of_lt_of_le (show n.natAbs < 2 ^ 31 by omega) (pow_le' (by decide))
    obtain ⟨z, hz, zok, zl⟩ := word_at q0 q1
    refine ⟨_, rfl, .inl ⟨_, rfl, _, _, rfl, rfl, (show (0 : Int) < 4 by decide), le64 rfl, fun w hw => ?_⟩⟩
    have sm := same_new (o := .tup [.int (n % 4), .int 1]) hw
    have W := sqT_of (K := K) (upd_same (H := H) (a := w) (o := .tup [.int (n % 4), .int 1]))
    generalize upd H w (.tup [.int (n % 4), .int 1]) = G0 at *
    refine ⟨le64 rfl, fun l0 hl0 => ⟨_, rfl, .inl ⟨_, rfl, _, _, rfl, rfl, (show (0 : Int) < 3 by decide), l0, _, _, _, rfl, rfl, sqL_of upd_same, hz, ?_⟩⟩⟩
    replace sm := sm.trans (same_new (o := .lst [.str "a", .str "task", .str "withins"]) hl0)
    replace W := Q7.sqT_same (same_new (o := .lst [.str "a", .str "task", .str "withins"]) hl0) W
    generalize upd G0 l0 (.lst [.str "a", .str "task", .str "withins"]) = G1 at *
    refine (gv_f (v := .str z) rfl (dpN_str zok zl) (T.xf _ (me 18 rfl)) T.M_InvalidTasks.choose_spec.c.nof) _ _ (fun _ _ e => e) fun H1 s1 => (gv_f (v := .str z) rfl (dpN_str zok zl) (T.xf _ (me 18 rfl)) T.M_InvalidTasks.choose_spec.c.nof) _ _ (fun _ _ e => e) fun H2 s2 => ⟨le64 rfl, fun m0 hm0 => ?_⟩
    have k0 := (s1.trans s2).trans (same_new (o := .lst [.str z, .str z]) hm0)
    have hM := upd_same (H := H2) (a := m0) (o := .lst [.str z, .str z])
    replace sm := sm.trans k0
    replace W := Q7.sqT_same k0 W
    generalize upd H2 m0 (.lst [.str z, .str z]) = G2 at *
    clear k0 s1 s2
    refine ⟨_, rfl, le64 rfl, fun l1 hl1 => ⟨l1, 2, _, rfl, rfl, upd_same, by decide, by decide, le64 rfl, fun d0 hd0 => ?_⟩⟩
    have k0 := (same_new (o := .lst [.str z]) hl1).trans (same_new (o := .lst [.str z, .str z]) hd0)
    have hD : upd (upd G2 l1 (.lst [.str z])) d0 (.lst [.str z, .str z]) d0 = some (.lst [.str z, .str z]) := upd_same
    replace sm := sm.trans k0
    replace W := Q7.sqT_same k0 W
    replace hM := k0 _ _ hM
    show tSeq _ _ _ [some (.int n), some (.ref w), some (.str z), some (.ref m0), some (.ref d0)] (upd (upd G2 l1 (.lst [.str z])) d0 (.lst [.str z, .str z]))
    generalize upd (upd G2 l1 (.lst [.str z])) d0 (.lst [.str z, .str z]) = G3 at *
    clear k0
    refine vs3 (fun m' => [some (.int n), some (.ref w), some (.str z), some (.ref m'), some (.ref d0)]) rfl (fun _ => rfl) hM (le64 rfl) (gv_f (v := .ref w) rfl (way_dn W sr) (T.xf _ (me 14 rfl)) T.M_InvalidPlan.choose_spec.c.nof) (gv_f (v := .ref w) rfl (way_dn W sr) (T.xf _ (me 14 rfl)) T.M_InvalidPlan.choose_spec.c.nof) (gv_f (v := .ref w) rfl (way_dn W sr) (T.xf _ (me 5 rfl)) T.M_InvalidFates.choose_spec.c.nof) fun m1 G4 k0 j0 => ?_
    replace hM : G4 m1 = some (.lst [.str z, .str z, .ref w, .ref w, .ref w]) := j0
    replace sm := sm.trans k0
    replace W := Q7.sqT_same k0 W
    replace hD := k0 _ _ hD
    clear k0 j0
    refine vs3 (fun m' => [some (.int n), some (.ref w), some (.str z), some (.ref m'), some (.ref d0)]) rfl (fun _ => rfl) hM (le64 rfl) (gv_f (v := .ref w) rfl (way_dn W sr) (T.xf _ (me 5 rfl)) T.M_InvalidFates.choose_spec.c.nof) (gv_f (v := .ref w) rfl (way_dn W sr) (T.xf _ (me 28 rfl)) T.M_Overdue.choose_spec.c.nof) (gv_f (v := .ref w) rfl (way_dn W sr) (T.xf _ (me 28 rfl)) T.M_Overdue.choose_spec.c.nof) fun m2 G5 k0 j0 => ?_
    replace hM : G5 m2 = some (.lst [.str z, .str z, .ref w, .ref w, .ref w, .ref w, .ref w, .ref w]) := j0
    replace sm := sm.trans k0
    replace W := Q7.sqT_same k0 W
    replace hD := k0 _ _ hD
    clear k0 j0
    refine ⟨_, rfl, _, rfl, le64 rfl, fun l2 hl2 => ⟨l2, 6, _, rfl, rfl, upd_same, by decide, by decide, le64 rfl, fun l3 hl3 => ⟨d0, l3, _, _, rfl, rfl, same_new hl3 _ _ (same_new hl2 _ _ hD), upd_same, le64 rfl, fun d1 hd1 => ?_⟩⟩⟩
    have k0 : Same G5 (upd (upd (upd G5 l2 (.lst [.ref w])) l3 (.lst [.ref w, .ref w, .ref w, .ref w, .ref w, .ref w])) d1 (.lst [.str z, .str z, .ref w, .ref w, .ref w, .ref w, .ref w, .ref w])) := ((same_new hl2).trans (same_new hl3)).trans (same_new hd1)
    replace hD : upd (upd (upd G5 l2 (.lst [.ref w])) l3 (.lst [.ref w, .ref w, .ref w, .ref w, .ref w, .ref w])) d1 (.lst [.str z, .str z, .ref w, .ref w, .ref w, .ref w, .ref w, .ref w]) d1 = some (.lst [.str z, .str z, .ref w, .ref w, .ref w, .ref w, .ref w, .ref w]) := upd_same
    replace sm := sm.trans k0
    replace W := Q7.sqT_same k0 W
    replace hM := k0 _ _ hM
    show tSeq _ _ _ [some (.int n), some (.ref w), some (.str z), some (.ref m2), some (.ref d1)] (upd (upd (upd G5 l2 (.lst [.ref w])) l3 (.lst [.ref w, .ref w, .ref w, .ref w, .ref w, .ref w])) d1 (.lst [.str z, .str z, .ref w, .ref w, .ref w, .ref w, .ref w, .ref w]))
    generalize upd (upd (upd G5 l2 (.lst [.ref w])) l3 (.lst [.ref w, .ref w, .ref w, .ref w, .ref w, .ref w])) d1 (.lst [.str z, .str z, .ref w, .ref w, .ref w, .ref w, .ref w, .ref w]) = G6 at *
    clear k0
    refine vs3 (fun m' => [some (.int n), some (.ref w), some (.str z), some (.ref m'), some (.ref d1)]) rfl (fun _ => rfl) hM (le64 rfl) (gv_f (v := .int n) rfl (dpN_int sn) (T.xf _ (me 29 rfl)) T.M_TooLarge.choose_spec.c.nof) (gv_f (v := .int n) rfl (dpN_int sn) (T.xf _ (me 29 rfl)) T.M_TooLarge.choose_spec.c.nof) (gv_f (v := .int n) rfl (dpN_int sn) (T.xf _ (me 30 rfl)) T.M_TooMany.choose_spec.c.nof) fun m3 G7 k0 j0 => ?_
    replace hM : G7 m3 = some (.lst [.str z, .str z, .ref w, .ref w, .ref w, .ref w, .ref w, .ref w, .int n, .int n, .int n]) := j0
    replace sm := sm.trans k0
    replace W := Q7.sqT_same k0 W
    replace hD := k0 _ _ hD
    clear k0 j0
    refine vs3 (fun m' => [some (.int n), some (.ref w), some (.str z), some (.ref m'), some (.ref d1)]) rfl (fun _ => rfl) hM (le64 rfl) (gv_f (v := .int n) rfl (dpN_int sn) (T.xf _ (me 30 rfl)) T.M_TooMany.choose_spec.c.nof) (gv_f (v := .int n) rfl (dpN_int sn) (T.xf _ (me 19 rfl)) T.M_InvalidText.choose_spec.c.nof) (gv_f (v := .int n) rfl (dpN_int sn) (T.xf _ (me 19 rfl)) T.M_InvalidText.choose_spec.c.nof) fun m4 G8 k0 j0 => ?_
    replace hM : G8 m4 = some (.lst [.str z, .str z, .ref w, .ref w, .ref w, .ref w, .ref w, .ref w, .int n, .int n, .int n, .int n, .int n, .int n]) := j0
    replace sm := sm.trans k0
    replace W := Q7.sqT_same k0 W
    replace hD := k0 _ _ hD
    clear k0 j0
    refine vs3 (fun m' => [some (.int n), some (.ref w), some (.str z), some (.ref m'), some (.ref d1)]) rfl (fun _ => rfl) hM (le64 rfl) (gv_f (v := .int n) rfl (dpN_int sn) (T.xf _ (me 8 rfl)) T.M_InvalidLine.choose_spec.c.nof) (gv_f (v := .int n) rfl (dpN_int sn) (T.xf _ (me 8 rfl)) T.M_InvalidLine.choose_spec.c.nof) (gv_f (v := .int n) rfl (dpN_int sn) (T.xf _ (me 12 rfl)) T.M_InvalidParts.choose_spec.c.nof) fun m5 G9 k0 j0 => ?_
    replace hM : G9 m5 = some (.lst [.str z, .str z, .ref w, .ref w, .ref w, .ref w, .ref w, .ref w, .int n, .int n, .int n, .int n, .int n, .int n, .int n, .int n, .int n]) := j0
    replace sm := sm.trans k0
    replace W := Q7.sqT_same k0 W
    replace hD := k0 _ _ hD
    clear k0 j0
    refine vs3 (fun m' => [some (.int n), some (.ref w), some (.str z), some (.ref m'), some (.ref d1)]) rfl (fun _ => rfl) hM (le64 rfl) (gv_f (v := .int n) rfl (dpN_int sn) (T.xf _ (me 12 rfl)) T.M_InvalidParts.choose_spec.c.nof) (gv_f (v := .int n) rfl (dpN_int sn) (T.xf _ (me 24 rfl)) T.M_NotRisky.choose_spec.c.nof) (gv_f (v := .int n) rfl (dpN_int sn) (T.xf _ (me 24 rfl)) T.M_NotRisky.choose_spec.c.nof) fun m6 G10 k0 j0 => ?_
    replace hM : G10 m6 = some (.lst [.str z, .str z, .ref w, .ref w, .ref w, .ref w, .ref w, .ref w, .int n, .int n, .int n, .int n, .int n, .int n, .int n, .int n, .int n, .int n, .int n, .int n]) := j0
    replace sm := sm.trans k0
    replace W := Q7.sqT_same k0 W
    replace hD := k0 _ _ hD
    clear k0 j0
    refine vs2 (fun m' => [some (.int n), some (.ref w), some (.str z), some (.ref m'), some (.ref d1)]) rfl (fun _ => rfl) hM (le64 rfl) (gv_f (v := .int n) rfl (dpN_int sn) (T.xf _ (me 23 rfl)) T.M_NeverDone.choose_spec.c.nof) (gv_f (v := .int n) rfl (dpN_int sn) (T.xf _ (me 23 rfl)) T.M_NeverDone.choose_spec.c.nof) fun m7 G11 k0 j0 => ?_
    replace hM : G11 m7 = some (.lst [.str z, .str z, .ref w, .ref w, .ref w, .ref w, .ref w, .ref w, .int n, .int n, .int n, .int n, .int n, .int n, .int n, .int n, .int n, .int n, .int n, .int n, .int n, .int n]) := j0
    replace sm := sm.trans k0
    replace W := Q7.sqT_same k0 W
    replace hD := k0 _ _ hD
    clear k0 j0
    refine ⟨_, rfl, _, rfl, _, rfl, le64 rfl, fun l4 hl4 => ⟨l4, 14, _, rfl, rfl, upd_same, by decide, by decide, le64 rfl, fun l5 hl5 => ⟨d1, l5, _, _, rfl, rfl, same_new hl5 _ _ (same_new hl4 _ _ hD), upd_same, le64 rfl, fun l6 hl6 => ?_⟩⟩⟩
    have k0 : Same G11 (upd (upd (upd G11 l4 (.lst [.int n])) l5 (.lst [.int n, .int n, .int n, .int n, .int n, .int n, .int n, .int n, .int n, .int n, .int n, .int n, .int n, .int n])) l6 (.lst [.str z, .str z, .ref w, .ref w, .ref w, .ref w, .ref w, .ref w, .int n, .int n, .int n, .int n, .int n, .int n, .int n, .int n, .int n, .int n, .int n, .int n, .int n, .int n])) := ((same_new hl4).trans (same_new hl5)).trans (same_new hl6)
    replace hD : upd (upd (upd G11 l4 (.lst [.int n])) l5 (.lst [.int n, .int n, .int n, .int n, .int n, .int n, .int n, .int n, .int n, .int n, .int n, .int n, .int n, .int n])) l6 (.lst [.str z, .str z, .ref w, .ref w, .ref w, .ref w, .ref w, .ref w, .int n, .int n, .int n, .int n, .int n, .int n, .int n, .int n, .int n, .int n, .int n, .int n, .int n, .int n]) l6 = some (.lst [.str z, .str z, .ref w, .ref w, .ref w, .ref w, .ref w, .ref w, .int n, .int n, .int n, .int n, .int n, .int n, .int n, .int n, .int n, .int n, .int n, .int n, .int n, .int n]) := upd_same
    replace sm := sm.trans k0
    replace W := Q7.sqT_same k0 W
    replace hM := k0 _ _ hM
    have ev : PyData.eqv (.list [.str z, .str z, .tuple [.int (n % 4), .int 1], .tuple [.int (n % 4), .int 1], .tuple [.int (n % 4), .int 1], .tuple [.int (n % 4), .int 1], .tuple [.int (n % 4), .int 1], .tuple [.int (n % 4), .int 1], .int n, .int n, .int n, .int n, .int n, .int n, .int n, .int n, .int n, .int n, .int n, .int n, .int n, .int n]) (.list [.str z, .str z, .tuple [.int (n % 4), .int 1], .tuple [.int (n % 4), .int 1], .tuple [.int (n % 4), .int 1], .tuple [.int (n % 4), .int 1], .tuple [.int (n % 4), .int 1], .tuple [.int (n % 4), .int 1], .int n, .int n, .int n, .int n, .int n, .int n, .int n, .int n, .int n, .int n, .int n, .int n, .int n, .int n]) = true := by simp [PyData.eqv, PyData.eqvAll]
    have shp : SeqAt.shaped (.list [.str z, .str z, .tuple [.int (n % 4), .int 1], .tuple [.int (n % 4), .int 1], .tuple [.int (n % 4), .int 1], .tuple [.int (n % 4), .int 1], .tuple [.int (n % 4), .int 1], .tuple [.int (n % 4), .int 1], .int n, .int n, .int n, .int n, .int n, .int n, .int n, .int n, .int n, .int n, .int n, .int n, .int n, .int n]) = true := by show (PyData.canLay0 _ && decide (PyData.depth _ ≤ 64)) = true; simp [PyData.canLay0, PyData.canLayAll0, PyData.depth, PyData.depthAll, zok]
    refine ⟨.list [.str z, .str z, .tuple [.int (n % 4), .int 1], .tuple [.int (n % 4), .int 1], .tuple [.int (n % 4), .int 1], .tuple [.int (n % 4), .int 1], .tuple [.int (n % 4), .int 1], .tuple [.int (n % 4), .int 1], .int n, .int n, .int n, .int n, .int n, .int n, .int n, .int n, .int n, .int n, .int n, .int n, .int n, .int n], .list [.str z, .str z, .tuple [.int (n % 4), .int 1], .tuple [.int (n % 4), .int 1], .tuple [.int (n % 4), .int 1], .tuple [.int (n % 4), .int 1], .tuple [.int (n % 4), .int 1], .tuple [.int (n % 4), .int 1], .int n, .int n, .int n, .int n, .int n, .int n, .int n, .int n, .int n, .int n, .int n, .int n, .int n, .int n], .lst (sqL_of hM) (.cons (.str z) (.cons (.str z) (.cons (way_dp W) (.cons (way_dp W) (.cons (way_dp W) (.cons (way_dp W) (.cons (way_dp W) (.cons (way_dp W) (.cons (.int n) (.cons (.int n) (.cons (.int n) (.cons (.int n) (.cons (.int n) (.cons (.int n) (.cons (.int n) (.cons (.int n) (.cons (.int n) (.cons (.int n) (.cons (.int n) (.cons (.int n) (.cons (.int n) (.cons (.int n) .nil)))))))))))))))))))))), .lst (sqL_of hD) (.cons (.str z) (.cons (.str z) (.cons (way_dp W) (.cons (way_dp W) (.cons (way_dp W) (.cons (way_dp W) (.cons (way_dp W) (.cons (way_dp W) (.cons (.int n) (.cons (.int n) (.cons (.int n) (.cons (.int n) (.cons (.int n) (.cons (.int n) (.cons (.int n) (.cons (.int n) (.cons (.int n) (.cons (.int n) (.cons (.int n) (.cons (.int n) (.cons (.int n) (.cons (.int n) .nil)))))))))))))))))))))), shp, shp, ?_⟩
    rw [ev]
    exact hQ _ sm
end
end L88
set_option maxRecDepth 100000
set_option maxHeartbeats 4000000
namespace L88
open PySem PySem.Spec PyProof.Rows L2 Q7
section
variable {w : World} {K : PySem.W.Frag} {mg : Str → Option Value} {base : Heap}
/-! ### all of it right -/
def spRight : Sp := fun vs H Q _ => ∃ (y : Str) (n : Int), vs = [.str y, .int n] ∧ 0 ≤ n ∧ n < 2 ^ 31 ∧ ∀ H', Same H H' → Q (.bl true) H'
/-- t gives a new exception of the class x -/
def Gx (K : PySem.W.Frag) (H0 : Hp) (σ : L2.St) (x : Str) (t : TE) : Prop := ∀ H1 Q, Same H0 H1 → (∀ a H2, Same H1 H2 → EXV H2 (He.ga K x) a → Q (.ref a) H2) → t σ H1 Q
theorem gx_plain {H0 : Hp} {σ : L2.St} {v : V} {x : Str} {i : Nat} (hσ : σ[i]? = some (some v)) : Gx K H0 σ x (fun σ H Q => tVar i σ H fun _ H1 => ∀ a, H1 a = none → Q (.ref a) (upd H1 a (ExO (.ref (He.ga K x)) a))) :=
  fun H1 Q s h => ⟨v, hσ, fun a ha => h a _ (same_new ha) (.bare upd_same)⟩
def Gd (K : PySem.W.Frag) (H0 : Hp) (σ : L2.St) (t : TE) : Prop := ∀ H1 Q, Same H0 H1 → (∀ v H2, Same H1 H2 → DpN K H2 v → Q v H2) → t σ H1 Q
theorem gd_var {H0 : Hp} {σ : L2.St} {v : V} {i : Nat} (hσ : σ[i]? = some (some v)) (hd : DpN K H0 v) : Gd K H0 σ (tVar i) := fun H1 Q s h => ⟨v, hσ, h v _ (fun _ _ e => e) (dpN_same hd s)⟩
theorem gd_c {H0 : Hp} {σ : L2.St} {v : V} (hd : DpN K H0 v) : Gd K H0 σ (tC v) := fun H1 Q s h => h v _ (fun _ _ e => e) (dpN_same hd s)
theorem gd_t0 {H0 : Hp} {σ : L2.St} : Gd K H0 σ (tTup tNil) := fun H1 Q s h => ⟨le64 rfl, fun t ht => h _ _ (same_new ht) (dpN_of (.tup (sqT_of upd_same) .nil) (sm_tup smA_nil))⟩
theorem gd_t1 {H0 : Hp} {σ : L2.St} {i : Int} (hi : ShI i) : Gd K H0 σ (tTup (tCons (tC (.int i)) tNil)) := fun H1 Q s h => ⟨le64 rfl, fun t ht => h _ _ (same_new ht) (dpN_of (.tup (sqT_of upd_same) (.cons (.int i) .nil)) (sm_tup (smA_cons (sm_int hi) smA_nil)))⟩
theorem gx_sup {H0 : Hp} {σ : L2.St} {x f : Str} {te : TE} (g : Gd K H0 σ te) : Gx K H0 σ x (tXNew K (He.ga K x) f te) := fun H1 Q s h =>
  g _ _ s fun v H2 s2 hd => ⟨hd, fun a dx ha hdx ne => h a _ (s2.trans (same_two ha hdx ne)) (exv_two ne)⟩
theorem xs2 {t1 t2 : TE} {σ : L2.St} {x1 x2 : Str} {ns : List Str} {L : List V} {H : Hp} {D : Ends} {rest : TS} {i : Nat} {m : Addr} (σ' : Addr → L2.St) (hσ : σ[i]? = some (some (.ref m))) (hs : ∀ m', σ.set i (some (.ref m')) = σ' m') (hM : H m = some (.lst L)) (hP : Paired (XV K H) L ns) (hl : ns.length + 2 ≤ sizeLine)
    (g1 : Gx K H σ x1 t1) (g2 : Gx K H σ x2 t2) (h : ∀ m' H' L', Same H H' → H' m' = some (.lst L') → Paired (XV K H') L' (ns ++ [x1, x2]) → rest D (σ' m') H') :
    tSeq (tAsg (tOp rCat (tVar i) (tLst (tCons t1 (tCons t2 tNil)))) (gName i)) rest D σ H := by
  refine ⟨_, hσ, g1 _ _ (fun _ _ e => e) fun a1 H1 s1 e1 => g2 _ _ s1 fun a2 H2 s2 e2 => ⟨le64 rfl, fun l hl1 => ?_⟩⟩
  have s : Same H H2 := s1.trans s2
  refine ⟨m, l, _, _, rfl, rfl, same_new hl1 _ _ (s _ _ hM), upd_same, by rw [pLen hP]; exact hl, fun n hn => ?_⟩
  show rest D (σ.set i (some (.ref n))) _
  rw [hs]
  have k := (same_new (o := .lst [.ref a1, .ref a2]) hl1).trans (same_new (o := .lst (L ++ [.ref a1, .ref a2])) hn)
  exact h n _ _ (s.trans k) upd_same (pApp (xv_same (s.trans k) hP) (.cons ⟨a1, rfl, e1.same (s2.trans k)⟩ (.cons ⟨a2, rfl, e2.same k⟩ .nil)))
theorem xs1 {t1 : TE} {σ : L2.St} {x1 : Str} {ns : List Str} {L : List V} {H : Hp} {D : Ends} {rest : TS} {i : Nat} {m : Addr} (σ' : Addr → L2.St) (hσ : σ[i]? = some (some (.ref m))) (hs : ∀ m', σ.set i (some (.ref m')) = σ' m') (hM : H m = some (.lst L)) (hP : Paired (XV K H) L ns) (hl : ns.length + 1 ≤ sizeLine)
    (g1 : Gx K H σ x1 t1) (h : ∀ m' H' L', Same H H' → H' m' = some (.lst L') → Paired (XV K H') L' (ns ++ [x1]) → rest D (σ' m') H') :
    tSeq (tAsg (tOp rCat (tVar i) (tLst (tCons t1 tNil))) (gName i)) rest D σ H := by
  refine ⟨_, hσ, g1 _ _ (fun _ _ e => e) fun a1 H1 s1 e1 => ⟨le64 rfl, fun l hl1 => ?_⟩⟩
  refine ⟨m, l, _, _, rfl, rfl, same_new hl1 _ _ (s1 _ _ hM), upd_same, by rw [pLen hP]; exact hl, fun n hn => ?_⟩
  show rest D (σ.set i (some (.ref n))) _
  rw [hs]
  have k := (same_new (o := .lst [.ref a1]) hl1).trans (same_new (o := .lst (L ++ [.ref a1])) hn)
  exact h n _ _ (s1.trans k) upd_same (pApp (xv_same (s1.trans k) hP) (.cons ⟨a1, rfl, e1.same k⟩ .nil))
theorem marks_eq : ∀ i, i < 31 → errs.map (fun y => decide (errs.getD i Str.empty = y)) = (List.range 31).map (fun o => decide (o = i)) := by decide +kernel
def bls (i : Nat) : List Bool := (List.range 31).map fun o => decide (o = i)
theorem marks_at {i : Nat} {x : Str} (h : errs[i]? = some x) : (errs.map fun y => V.bl (decide (x = y))) = (bls i).map V.bl := by
  have hi : i < 31 := (List.getElem?_eq_some_iff.mp h).1
  have e : errs.getD i Str.empty = x := by rw [List.getD_eq_getElem?_getD, h]; rfl
  have q := marks_eq i hi
  rw [e] at q
  have q2 := congrArg (List.map V.bl) q
  rw [List.map_map] at q2
  exact q2
theorem dp_bls {H : Hp} : ∀ bs : List Bool, DpAll K H (bs.map V.bl) (bs.map PyData.bool)
  | [] => .nil
  | b :: r => .cons (.bl b) (dp_bls r)
theorem eqv_bls (bs : List Bool) : PyData.eqv (.list (bs.map PyData.bool)) (.list (bs.map PyData.bool)) = true := by
  simp only [PyData.eqv]
  induction bs with
  | nil => simp [PyData.eqvAll]
  | cons b r ih => simp [PyData.eqvAll, PyData.eqv, ih]
theorem sh_bls (bs : List Bool) : SeqAt.shaped (.list (bs.map PyData.bool)) = true := by
  show (PyData.canLay0 _ && decide (PyData.depth _ ≤ 64)) = true
  have h1 : PyData.canLayAll0 (bs.map PyData.bool) = true := by
    induction bs with
    | nil => simp [PyData.canLayAll0]
    | cons b r ih => simp [PyData.canLayAll0, PyData.canLay0, ih]
  have h2 : PyData.depthAll (bs.map PyData.bool) ≤ 1 := by
    induction bs with
    | nil => simp [PyData.depthAll]
    | cons b r ih => simp [PyData.depthAll, PyData.depth]; simpa using ih (by simp [PyData.canLayAll0, PyData.canLay0] at h1 ⊢; exact h1)
  rw [Bool.and_eq_true]
  exact ⟨by simp only [PyData.canLay0]; exact h1, decide_eq_true (by simp only [PyData.depth]; omega)⟩
theorem pe_in1 : ("PlanError" : Str) ∈ errs1 := by decide +kernel
theorem flat_pe : (errs.map fun y => V.bl (decide (("PlanError" : Str) = y))).all flatV = true := by decide +kernel
theorem in_pe : inV (V.bl true) (errs.map fun y => V.bl (decide (("PlanError" : Str) = y))) = false := by decide +kernel
theorem ok__law_right (T : Txt K mg) : FnG P w K mg base 10 (He.ga K "_law_right") T.fd__law_right ["message", "amount"] spRight := by
  refine okG T.F__law_right sc__law_right (fun vs H Q E h => ?_) (fun cdv A outer s H vs Q E g hr h => ⟨_, PSs.nox
    (pss_cons (ps_set (i := 2) sc__law_right.nd rfl (.inl rfl) (pe_lst pa_nil))
      (pss_cons (ps_set (i := 2) sc__law_right.nd rfl (.inl rfl) (pe_op op_cat (pv 2) (pe_lst (pa_cons (pe_exc1 F.excBase_ValueError (T.plain "InvalidArrows" (by decide)).1 T.g_InvalidArrows (T.plain "InvalidArrows" (by decide)).2 (by rfl) (pv 0)) (pa_cons (pe_exc1 F.excBase_ValueError (T.plain "InvalidBeginning" (by decide)).1 T.g_InvalidBeginning (T.plain "InvalidBeginning" (by decide)).2 (by rfl) (pv 0)) pa_nil)))))
      (pss_cons (ps_set (i := 2) sc__law_right.nd rfl (.inl rfl) (pe_op op_cat (pv 2) (pe_lst (pa_cons (pe_exc1 F.excBase_ValueError (T.plain "InvalidChains" (by decide)).1 T.g_InvalidChains (T.plain "InvalidChains" (by decide)).2 (by rfl) (pv 0)) (pa_cons (pe_exc1 F.excBase_ValueError (T.plain "InvalidCourse" (by decide)).1 T.g_InvalidCourse (T.plain "InvalidCourse" (by decide)).2 (by rfl) (pv 0)) pa_nil)))))
      (pss_cons (ps_set (i := 2) sc__law_right.nd rfl (.inl rfl) (pe_op op_cat (pv 2) (pe_lst (pa_cons (pe_exc1 F.excBase_ValueError (T.plain "InvalidEnd" (by decide)).1 T.g_InvalidEnd (T.plain "InvalidEnd" (by decide)).2 (by rfl) (pv 0)) (pa_cons (pe_sup T.M_InvalidFates.choose_spec (hr.mono (by decide)) g (by rfl) T.g_InvalidFates (pe_tup (pa_cons pe_int pa_nil))) pa_nil)))))
      (pss_cons (ps_set (i := 2) sc__law_right.nd rfl (.inl rfl) (pe_op op_cat (pv 2) (pe_lst (pa_cons (pe_exc1 F.excBase_ValueError (T.plain "InvalidFraction" (by decide)).1 T.g_InvalidFraction (T.plain "InvalidFraction" (by decide)).2 (by rfl) (pv 0)) (pa_cons (pe_exc1 F.excBase_ValueError (T.plain "InvalidKind" (by decide)).1 T.g_InvalidKind (T.plain "InvalidKind" (by decide)).2 (by rfl) (pv 0)) pa_nil)))))
      (pss_cons (ps_set (i := 2) sc__law_right.nd rfl (.inl rfl) (pe_op op_cat (pv 2) (pe_lst (pa_cons (pe_sup T.M_InvalidLine.choose_spec (hr.mono (by decide)) g (by rfl) T.g_InvalidLine (pv 1)) (pa_cons (pe_exc1 F.excBase_ValueError (T.plain "InvalidName" (by decide)).1 T.g_InvalidName (T.plain "InvalidName" (by decide)).2 (by rfl) (pv 0)) pa_nil)))))
      (pss_cons (ps_set (i := 2) sc__law_right.nd rfl (.inl rfl) (pe_op op_cat (pv 2) (pe_lst (pa_cons (pe_exc1 F.excBase_ValueError (T.plain "InvalidNames" (by decide)).1 T.g_InvalidNames (T.plain "InvalidNames" (by decide)).2 (by rfl) (pv 0)) (pa_cons (pe_exc1 F.excBase_ValueError (T.plain "InvalidNumber" (by decide)).1 T.g_InvalidNumber (T.plain "InvalidNumber" (by decide)).2 (by rfl) (pv 0)) pa_nil)))))
      (pss_cons (ps_set (i := 2) sc__law_right.nd rfl (.inl rfl) (pe_op op_cat (pv 2) (pe_lst (pa_cons (pe_sup T.M_InvalidParts.choose_spec (hr.mono (by decide)) g (by rfl) T.g_InvalidParts (pv 1)) (pa_cons (pe_exc1 F.excBase_ValueError (T.plain "InvalidPath" (by decide)).1 T.g_InvalidPath (T.plain "InvalidPath" (by decide)).2 (by rfl) (pv 0)) pa_nil)))))
      (pss_cons (ps_set (i := 2) sc__law_right.nd rfl (.inl rfl) (pe_op op_cat (pv 2) (pe_lst (pa_cons (pe_sup T.M_InvalidPlan.choose_spec (hr.mono (by decide)) g (by rfl) T.g_InvalidPlan (pe_tup pa_nil)) (pa_cons (pe_exc1 F.excBase_ValueError (T.plain "InvalidRow" (by decide)).1 T.g_InvalidRow (T.plain "InvalidRow" (by decide)).2 (by rfl) (pv 0)) pa_nil)))))
      (pss_cons (ps_set (i := 2) sc__law_right.nd rfl (.inl rfl) (pe_op op_cat (pv 2) (pe_lst (pa_cons (pe_exc1 F.excBase_ValueError (T.plain "InvalidShare" (by decide)).1 T.g_InvalidShare (T.plain "InvalidShare" (by decide)).2 (by rfl) (pv 0)) (pa_cons (pe_exc1 F.excBase_ValueError (T.plain "InvalidTask" (by decide)).1 T.g_InvalidTask (T.plain "InvalidTask" (by decide)).2 (by rfl) (pv 0)) pa_nil)))))
      (pss_cons (ps_set (i := 2) sc__law_right.nd rfl (.inl rfl) (pe_op op_cat (pv 2) (pe_lst (pa_cons (pe_sup T.M_InvalidTasks.choose_spec (hr.mono (by decide)) g (by rfl) T.g_InvalidTasks pe_str) (pa_cons (pe_sup T.M_InvalidText.choose_spec (hr.mono (by decide)) g (by rfl) T.g_InvalidText (pv 1)) pa_nil)))))
      (pss_cons (ps_set (i := 2) sc__law_right.nd rfl (.inl rfl) (pe_op op_cat (pv 2) (pe_lst (pa_cons (pe_exc1 F.excBase_ValueError (T.plain "InvalidTick" (by decide)).1 T.g_InvalidTick (T.plain "InvalidTick" (by decide)).2 (by rfl) (pv 0)) (pa_cons (pe_exc1 F.excBase_ValueError (T.plain "InvalidWeights" (by decide)).1 T.g_InvalidWeights (T.plain "InvalidWeights" (by decide)).2 (by rfl) (pv 0)) pa_nil)))))
      (pss_cons (ps_set (i := 2) sc__law_right.nd rfl (.inl rfl) (pe_op op_cat (pv 2) (pe_lst (pa_cons (pe_exc1 F.excBase_ValueError (T.plain "InvalidWord" (by decide)).1 T.g_InvalidWord (T.plain "InvalidWord" (by decide)).2 (by rfl) (pv 0)) (pa_cons (pe_sup T.M_NeverDone.choose_spec (hr.mono (by decide)) g (by rfl) T.g_NeverDone (pv 1)) pa_nil)))))
      (pss_cons (ps_set (i := 2) sc__law_right.nd rfl (.inl rfl) (pe_op op_cat (pv 2) (pe_lst (pa_cons (pe_sup T.M_NotRisky.choose_spec (hr.mono (by decide)) g (by rfl) T.g_NotRisky (pv 1)) (pa_cons (pe_exc1 F.excBase_ValueError (T.plain "NotSafe" (by decide)).1 T.g_NotSafe (T.plain "NotSafe" (by decide)).2 (by rfl) (pv 0)) pa_nil)))))
      (pss_cons (ps_set (i := 2) sc__law_right.nd rfl (.inl rfl) (pe_op op_cat (pv 2) (pe_lst (pa_cons (pe_exc1 F.excBase_ValueError (T.plain "NothingRuns" (by decide)).1 T.g_NothingRuns (T.plain "NothingRuns" (by decide)).2 (by rfl) (pv 0)) (pa_cons (pe_exc1 F.excBase_ValueError (T.plain "NothingToUndo" (by decide)).1 T.g_NothingToUndo (T.plain "NothingToUndo" (by decide)).2 (by rfl) (pv 0)) pa_nil)))))
      (pss_cons (ps_set (i := 2) sc__law_right.nd rfl (.inl rfl) (pe_op op_cat (pv 2) (pe_lst (pa_cons (pe_sup T.M_Overdue.choose_spec (hr.mono (by decide)) g (by rfl) T.g_Overdue (pe_tup (pa_cons pe_int pa_nil))) (pa_cons (pe_sup T.M_TooLarge.choose_spec (hr.mono (by decide)) g (by rfl) T.g_TooLarge (pv 1)) pa_nil)))))
      (pss_cons (ps_set (i := 2) sc__law_right.nd rfl (.inl rfl) (pe_op op_cat (pv 2) (pe_lst (pa_cons (pe_sup T.M_TooMany.choose_spec (hr.mono (by decide)) g (by rfl) T.g_TooMany (pv 1)) pa_nil))))
      (pss_cons (ps_for PassesOwn.never rfl (pi_range1 (by rfl) T.m_range (pa_cons pe_int pa_nil)) (pg_name (i := 3) sc__law_right.nd rfl (.inr rfl)) (pss_cons (ps_if (pt_cmpR (op_neD hr.units) (pe_call (ok__law_marks T) (hr.mono (by decide)) (by rfl) T.g__law_marks T.F__law_marks.kp T.b__law_marks .nil pass0 (pa_cons (pe_ix ix_list (pv 2) (pv 3) (fun _ _ => rfl)) pa_nil)) (pe_lc (own := [("other", 4)]) rfl sc__law_right.nd (pi_range1 (by rfl) T.m_range (pa_cons pe_int pa_nil)) (blkOk_by (N := ["message", "amount", "some", "k", "other"]) (sc := defScope s__law_right) (by decide +kernel)) (fun _ _ _ _ _ => (pg_name (i := 4) sc__law_right.nd rfl (.inl rfl) (hf := .inr rfl))) (fun _ _ _ _ _ => pts_nil) (fun _ _ _ _ _ => (pe_cmpR op_eq (pv 4) (pv 3) (nomark _)))) (nomark _)) (pss_one (ps_ret pe_bl)) pss_nil)
      (pss_one (ps_if (PW.pt (pw_or (pt_not (pt_val (pe_callB call_isX (by rfl) T.m_isinstance (by decide +kernel) (pa_cons (pe_ix ix_list (pv 2) (pv 3) (fun _ _ => rfl)) (pa_cons (pe_glob (v := V.ref (He.ga K "PlanError")) rfl T.g_PlanError rfl) pa_nil))))) (pw_or1 (pt_not (pt_val (pe_callB call_isX (by rfl) T.m_isinstance (by decide +kernel) (pa_cons (pe_ix ix_list (pv 2) (pv 3) (fun _ _ => rfl)) (pa_cons (pe_bltn rfl T.m_ValueError (v := .ty "ValueError") (u := .type "ValueError") (by decide +kernel) rfl) pa_nil)))))))) (pss_one (ps_ret pe_bl)) pss_nil))))
      (pss_one (ps_ret (pe_and (pe_callG (ok__law_fields_right T) (hr.mono (by decide)) g (by rfl) T.g__law_fields_right T.F__law_fields_right.kp T.b__law_fields_right (pa_cons (pv 1) pa_nil)) (pe_one (pe_cmpR op_notIn_seq pe_bl (pe_call (ok__law_marks T) (hr.mono (by decide)) (by rfl) T.g__law_marks T.F__law_marks.kp T.b__law_marks .nil pass0 (pa_cons (pe_exc1 F.excBase_ValueError (T.plain "PlanError" (by decide)).1 T.g_PlanError (T.plain "PlanError" (by decide)).2 (by rfl) (pv 0)) pa_nil)) rfl))))))))))))))))))))))), ?_⟩)
  · obtain ⟨y, n, rfl, _⟩ := h
    rfl
  · obtain ⟨y, n, rfl, h0, h1, hQ⟩ := h
    have sn : ShI n := Nat.lt_of_lt_of_le (show n.natAbs < 2 ^ 31 by omega) (pow_le' (by decide))
    refine ⟨le64 rfl, fun m0 hm0 => ?_⟩
    have sm := same_new (o := .lst []) hm0
    have hM := upd_same (H := H) (a := m0) (o := .lst [])
    have hP : Paired (XV K (upd H m0 (.lst []))) [] [] := .nil
    show tSeq _ _ _ [some (.str y), some (.int n), some (.ref m0), none, none] (upd H m0 (.lst []))
    generalize upd H m0 (.lst []) = G0 at *
    refine xs2 (x1 := "InvalidArrows") (x2 := "InvalidBeginning") (fun m' => [some (.str y), some (.int n), some (.ref m'), none, none]) rfl (fun _ => rfl) hM hP (le64 rfl) (gx_plain rfl) (gx_plain rfl) fun m1 G1 L1 k0 j0 j1 => ?_
    replace sm := sm.trans k0
    replace hM := j0
    replace hP : Paired (XV K G1) L1 ["InvalidArrows", "InvalidBeginning"] := j1
    clear k0 j0 j1
    refine xs2 (x1 := "InvalidChains") (x2 := "InvalidCourse") (fun m' => [some (.str y), some (.int n), some (.ref m'), none, none]) rfl (fun _ => rfl) hM hP (le64 rfl) (gx_plain rfl) (gx_plain rfl) fun m2 G2 L2 k0 j0 j1 => ?_
    replace sm := sm.trans k0
    replace hM := j0
    replace hP : Paired (XV K G2) L2 ["InvalidArrows", "InvalidBeginning", "InvalidChains", "InvalidCourse"] := j1
    clear k0 j0 j1
    refine xs2 (x1 := "InvalidEnd") (x2 := "InvalidFates") (fun m' => [some (.str y), some (.int n), some (.ref m'), none, none]) rfl (fun _ => rfl) hM hP (le64 rfl) (gx_plain rfl) (gx_sup (gd_t1 (shS (i := 0)))) fun m3 G3 L3 k0 j0 j1 => ?_
    replace sm := sm.trans k0
    replace hM := j0
    replace hP : Paired (XV K G3) L3 ["InvalidArrows", "InvalidBeginning", "InvalidChains", "InvalidCourse", "InvalidEnd", "InvalidFates"] := j1
    clear k0 j0 j1
    refine xs2 (x1 := "InvalidFraction") (x2 := "InvalidKind") (fun m' => [some (.str y), some (.int n), some (.ref m'), none, none]) rfl (fun _ => rfl) hM hP (le64 rfl) (gx_plain rfl) (gx_plain rfl) fun m4 G4 L4 k0 j0 j1 => ?_
    replace sm := sm.trans k0
    replace hM := j0
    replace hP : Paired (XV K G4) L4 ["InvalidArrows", "InvalidBeginning", "InvalidChains", "InvalidCourse", "InvalidEnd", "InvalidFates", "InvalidFraction", "InvalidKind"] := j1
    clear k0 j0 j1
    refine xs2 (x1 := "InvalidLine") (x2 := "InvalidName") (fun m' => [some (.str y), some (.int n), some (.ref m'), none, none]) rfl (fun _ => rfl) hM hP (le64 rfl) (gx_sup (gd_var rfl (dpN_int sn))) (gx_plain rfl) fun m5 G5 L5 k0 j0 j1 => ?_
    replace sm := sm.trans k0
    replace hM := j0
    replace hP : Paired (XV K G5) L5 ["InvalidArrows", "InvalidBeginning", "InvalidChains", "InvalidCourse", "InvalidEnd", "InvalidFates", "InvalidFraction", "InvalidKind", "InvalidLine", "InvalidName"] := j1
    clear k0 j0 j1
    refine xs2 (x1 := "InvalidNames") (x2 := "InvalidNumber") (fun m' => [some (.str y), some (.int n), some (.ref m'), none, none]) rfl (fun _ => rfl) hM hP (le64 rfl) (gx_plain rfl) (gx_plain rfl) fun m6 G6 L6 k0 j0 j1 => ?_
    replace sm := sm.trans k0
    replace hM := j0
    replace hP : Paired (XV K G6) L6 ["InvalidArrows", "InvalidBeginning", "InvalidChains", "InvalidCourse", "InvalidEnd", "InvalidFates", "InvalidFraction", "InvalidKind", "InvalidLine", "InvalidName", "InvalidNames", "InvalidNumber"] := j1
    clear k0 j0 j1
    refine xs2 (x1 := "InvalidParts") (x2 := "InvalidPath") (fun m' => [some (.str y), some (.int n), some (.ref m'), none, none]) rfl (fun _ => rfl) hM hP (le64 rfl) (gx_sup (gd_var rfl (dpN_int sn))) (gx_plain rfl) fun m7 G7 L7 k0 j0 j1 => ?_
    replace sm := sm.trans k0
    replace hM := j0
    replace hP : Paired (XV K G7) L7 ["InvalidArrows", "InvalidBeginning", "InvalidChains", "InvalidCourse", "InvalidEnd", "InvalidFates", "InvalidFraction", "InvalidKind", "InvalidLine", "InvalidName", "InvalidNames", "InvalidNumber", "InvalidParts", "InvalidPath"] := j1
    clear k0 j0 j1
    refine xs2 (x1 := "InvalidPlan") (x2 := "InvalidRow") (fun m' => [some (.str y), some (.int n), some (.ref m'), none, none]) rfl (fun _ => rfl) hM hP (le64 rfl) (gx_sup gd_t0) (gx_plain rfl) fun m8 G8 L8 k0 j0 j1 => ?_
    replace sm := sm.trans k0
    replace hM := j0
    replace hP : Paired (XV K G8) L8 ["InvalidArrows", "InvalidBeginning", "InvalidChains", "InvalidCourse", "InvalidEnd", "InvalidFates", "InvalidFraction", "InvalidKind", "InvalidLine", "InvalidName", "InvalidNames", "InvalidNumber", "InvalidParts", "InvalidPath", "InvalidPlan", "InvalidRow"] := j1
    clear k0 j0 j1
    refine xs2 (x1 := "InvalidShare") (x2 := "InvalidTask") (fun m' => [some (.str y), some (.int n), some (.ref m'), none, none]) rfl (fun _ => rfl) hM hP (le64 rfl) (gx_plain rfl) (gx_plain rfl) fun m9 G9 L9 k0 j0 j1 => ?_
    replace sm := sm.trans k0
    replace hM := j0
    replace hP : Paired (XV K G9) L9 ["InvalidArrows", "InvalidBeginning", "InvalidChains", "InvalidCourse", "InvalidEnd", "InvalidFates", "InvalidFraction", "InvalidKind", "InvalidLine", "InvalidName", "InvalidNames", "InvalidNumber", "InvalidParts", "InvalidPath", "InvalidPlan", "InvalidRow", "InvalidShare", "InvalidTask"] := j1
    clear k0 j0 j1
    refine xs2 (x1 := "InvalidTasks") (x2 := "InvalidText") (fun m' => [some (.str y), some (.int n), some (.ref m'), none, none]) rfl (fun _ => rfl) hM hP (le64 rfl) (gx_sup (gd_c (dpN_str (by decide +kernel) (by decide +kernel)))) (gx_sup (gd_var rfl (dpN_int sn))) fun m10 G10 L10 k0 j0 j1 => ?_
    replace sm := sm.trans k0
    replace hM := j0
    replace hP : Paired (XV K G10) L10 ["InvalidArrows", "InvalidBeginning", "InvalidChains", "InvalidCourse", "InvalidEnd", "InvalidFates", "InvalidFraction", "InvalidKind", "InvalidLine", "InvalidName", "InvalidNames", "InvalidNumber", "InvalidParts", "InvalidPath", "InvalidPlan", "InvalidRow", "InvalidShare", "InvalidTask", "InvalidTasks", "InvalidText"] := j1
    clear k0 j0 j1
    refine xs2 (x1 := "InvalidTick") (x2 := "InvalidWeights") (fun m' => [some (.str y), some (.int n), some (.ref m'), none, none]) rfl (fun _ => rfl) hM hP (le64 rfl) (gx_plain rfl) (gx_plain rfl) fun m11 G11 L11 k0 j0 j1 => ?_
    replace sm := sm.trans k0
    replace hM := j0
    replace hP : Paired (XV K G11) L11 ["InvalidArrows", "InvalidBeginning", "InvalidChains", "InvalidCourse", "InvalidEnd", "InvalidFates", "InvalidFraction", "InvalidKind", "InvalidLine", "InvalidName", "InvalidNames", "InvalidNumber", "InvalidParts", "InvalidPath", "InvalidPlan", "InvalidRow", "InvalidShare", "InvalidTask", "InvalidTasks", "InvalidText", "InvalidTick", "InvalidWeights"] := j1
    clear k0 j0 j1
    refine xs2 (x1 := "InvalidWord") (x2 := "NeverDone") (fun m' => [some (.str y), some (.int n), some (.ref m'), none, none]) rfl (fun _ => rfl) hM hP (le64 rfl) (gx_plain rfl) (gx_sup (gd_var rfl (dpN_int sn))) fun m12 G12 L12 k0 j0 j1 => ?_
    replace sm := sm.trans k0
    replace hM := j0
    replace hP : Paired (XV K G12) L12 ["InvalidArrows", "InvalidBeginning", "InvalidChains", "InvalidCourse", "InvalidEnd", "InvalidFates", "InvalidFraction", "InvalidKind", "InvalidLine", "InvalidName", "InvalidNames", "InvalidNumber", "InvalidParts", "InvalidPath", "InvalidPlan", "InvalidRow", "InvalidShare", "InvalidTask", "InvalidTasks", "InvalidText", "InvalidTick", "InvalidWeights", "InvalidWord", "NeverDone"] := j1
    clear k0 j0 j1
    refine xs2 (x1 := "NotRisky") (x2 := "NotSafe") (fun m' => [some (.str y), some (.int n), some (.ref m'), none, none]) rfl (fun _ => rfl) hM hP (le64 rfl) (gx_sup (gd_var rfl (dpN_int sn))) (gx_plain rfl) fun m13 G13 L13 k0 j0 j1 => ?_
    replace sm := sm.trans k0
    replace hM := j0
    replace hP : Paired (XV K G13) L13 ["InvalidArrows", "InvalidBeginning", "InvalidChains", "InvalidCourse", "InvalidEnd", "InvalidFates", "InvalidFraction", "InvalidKind", "InvalidLine", "InvalidName", "InvalidNames", "InvalidNumber", "InvalidParts", "InvalidPath", "InvalidPlan", "InvalidRow", "InvalidShare", "InvalidTask", "InvalidTasks", "InvalidText", "InvalidTick", "InvalidWeights", "InvalidWord", "NeverDone", "NotRisky", "NotSafe"] := j1
    clear k0 j0 j1
    refine xs2 (x1 := "NothingRuns") (x2 := "NothingToUndo") (fun m' => [some (.str y), some (.int n), some (.ref m'), none, none]) rfl (fun _ => rfl) hM hP (le64 rfl) (gx_plain rfl) (gx_plain rfl) fun m14 G14 L14 k0 j0 j1 => ?_
    replace sm := sm.trans k0
    replace hM := j0
    replace hP : Paired (XV K G14) L14 ["InvalidArrows", "InvalidBeginning", "InvalidChains", "InvalidCourse", "InvalidEnd", "InvalidFates", "InvalidFraction", "InvalidKind", "InvalidLine", "InvalidName", "InvalidNames", "InvalidNumber", "InvalidParts", "InvalidPath", "InvalidPlan", "InvalidRow", "InvalidShare", "InvalidTask", "InvalidTasks", "InvalidText", "InvalidTick", "InvalidWeights", "InvalidWord", "NeverDone", "NotRisky", "NotSafe", "NothingRuns", "NothingToUndo"] := j1
    clear k0 j0 j1
    refine xs2 (x1 := "Overdue") (x2 := "TooLarge") (fun m' => [some (.str y), some (.int n), some (.ref m'), none, none]) rfl (fun _ => rfl) hM hP (le64 rfl) (gx_sup (gd_t1 (shS (i := 1)))) (gx_sup (gd_var rfl (dpN_int sn))) fun m15 G15 L15 k0 j0 j1 => ?_
    replace sm := sm.trans k0
    replace hM := j0
    replace hP : Paired (XV K G15) L15 ["InvalidArrows", "InvalidBeginning", "InvalidChains", "InvalidCourse", "InvalidEnd", "InvalidFates", "InvalidFraction", "InvalidKind", "InvalidLine", "InvalidName", "InvalidNames", "InvalidNumber", "InvalidParts", "InvalidPath", "InvalidPlan", "InvalidRow", "InvalidShare", "InvalidTask", "InvalidTasks", "InvalidText", "InvalidTick", "InvalidWeights", "InvalidWord", "NeverDone", "NotRisky", "NotSafe", "NothingRuns", "NothingToUndo", "Overdue", "TooLarge"] := j1
    clear k0 j0 j1
    refine xs1 (x1 := "TooMany") (fun m' => [some (.str y), some (.int n), some (.ref m'), none, none]) rfl (fun _ => rfl) hM hP (le64 rfl) (gx_sup (gd_var rfl (dpN_int sn))) fun m16 G16 L16 k0 j0 j1 => ?_
    replace sm := sm.trans k0
    replace hM := j0
    replace hP : Paired (XV K G16) L16 ["InvalidArrows", "InvalidBeginning", "InvalidChains", "InvalidCourse", "InvalidEnd", "InvalidFates", "InvalidFraction", "InvalidKind", "InvalidLine", "InvalidName", "InvalidNames", "InvalidNumber", "InvalidParts", "InvalidPath", "InvalidPlan", "InvalidRow", "InvalidShare", "InvalidTask", "InvalidTasks", "InvalidText", "InvalidTick", "InvalidWeights", "InvalidWord", "NeverDone", "NotRisky", "NotSafe", "NothingRuns", "NothingToUndo", "Overdue", "TooLarge", "TooMany"] := j1
    clear k0 j0 j1
    have hP : Paired (XV K G16) L16 errs := hP
    have hlen := pLen hP
    have hlen : L16.length = 31 := hlen
    refine ⟨31, rfl, by decide, by decide, ?_⟩
    refine for_range (lo := 0) (n := 31) (fun i σ H' => Same G16 H' ∧ ∃ yk yo, σ = [some (.str y), some (.int n), some (.ref m16), yk, yo]) ⟨fun _ _ e => e, _, _, rfl⟩ ?_ ?_
    · rintro i σ H1 hi ⟨s1, yk, yo, rfl⟩
      rw [Int.zero_add]
      obtain ⟨v, hv⟩ : ∃ v, L16[i]? = some v := ⟨_, List.getElem?_eq_getElem (by omega)⟩
      obtain ⟨x, hx, a, rfl, ea⟩ := pGet hP hv
      have hx1 : x ∈ errs := List.mem_of_getElem? hx
      have hx2 : x ∈ errs1 := by
        have e1 : errs1 = errs ++ [("PlanError" : Str)] := rfl
        rw [e1]
        exact List.mem_append_left _ hx1
      have hM1 := s1 _ _ hM
      refine ⟨_, rfl, _, rfl, m16, _, _, _, rfl, rfl, sqL_of hM1, atI_nat hv, a, x, rfl, hx2, ea.same s1, fun r H2 s2 hr => ?_⟩
      refine ⟨31, rfl, by decide, by decide, fun D hD => ?_⟩
      refine lc_range (lo := 0) (n := 31) (fun j H3 => Same H2 H3 ∧ H3 D = some (.lst ((List.range j).map fun o => V.bl (decide (o = i))))) ⟨same_new hD, upd_same⟩ ?_ ?_
      · rintro j H3 hj ⟨s3, hA⟩
        refine ⟨rfl, ?_⟩
        refine ⟨_, rfl, _, rfl, rfl, _, hA, by rw [List.length_map, List.length_range]; exact Nat.lt_of_lt_of_le (show j < 32 by omega) (le64 rfl), same_mut s3 hD, ?_⟩
        have e : decide (V.int (0 + (j : Int)) = V.int (i : Int)) = decide (j = i) := by
          rw [dec_int, Bool.eq_iff_iff]
          simp only [beq_iff_eq, decide_eq_true_eq]
          omega
        rw [upd_same, List.range_succ, List.map_append]
        exact congrArg (fun b => some (HO.lst (_ ++ [V.bl b]))) e
      rintro H3 ⟨s3, hA⟩
      have hA : H3 D = some (.lst ((bls i).map V.bl)) := by
        rw [hA]
        unfold bls
        rw [List.map_map]
        rfl
      rw [marks_at hx] at hr
      refine ⟨_, _, .lst (sqL_of (s3 _ _ hr)) (dp_bls (bls i)), .lst (sqL_of hA) (dp_bls (bls i)), sh_bls _, sh_bls _, ?_⟩
      rw [eqv_bls]
      refine ⟨_, rfl, iteF ?_⟩
      have s13 : Same G16 H3 := s1.trans (s2.trans s3)
      have hM3 := s13 _ _ hM
      have ea3 := ea.same s13
      refine ⟨_, rfl, _, rfl, m16, _, _, _, rfl, rfl, sqL_of hM3, atI_nat hv, a, _, _, _, _, rfl, ea3, T.ec x hx2, .own _, T.kitP x hx1, _, rfl, iteF ⟨_, rfl, _, rfl, m16, _, _, _, rfl, rfl, sqL_of hM3, atI_nat hv, a, _, _, _, _, rfl, ea3, T.ec x hx2, .ty _, T.kitV x hx1, _, rfl, iteF ?_⟩⟩
      exact ⟨s13, _, _, rfl⟩
    · rintro σ H1 ⟨s1, yk, yo, rfl⟩
      refine ⟨_, rfl, n, rfl, h0, h1, fun H5 s5 => ⟨_, rfl, iteT ?_⟩⟩
      refine ⟨_, rfl, fun ap hap => ⟨ap, "PlanError", rfl, pe_in1, .bare upd_same, fun r H7 s7 hr => ?_⟩⟩
      refine ⟨r, _, rfl, .inl (sqL_of hr), rfl, flat_pe, ?_⟩
      have e : (if true = true then !inV (V.bl true) (errs.map fun y => V.bl (decide (("PlanError" : Str) = y))) else inV (V.bl true) (errs.map fun y => V.bl (decide (("PlanError" : Str) = y)))) = true := by rw [if_pos rfl, in_pe]; rfl
      rw [e]
      exact hQ _ (sm.trans (s1.trans (s5.trans ((same_new hap).trans s7))))
end
end L88
set_option maxRecDepth 100000
set_option maxHeartbeats 4000000
namespace L88
open PySem PySem.Spec PyProof.Rows L2 Q7
section
variable {w : World} {K : PySem.W.Frag} {mg : Str → Option Value} {base : Heap}
/-! ### the law -/
def spLaw (K : PySem.W.Frag) : Sp := fun vs H Q _ => ∃ (a : Addr) (ns : List Int), vs = [.ref a] ∧ SqL K H a (ns.map V.int) ∧ ns.length ≤ 63 ∧ ∀ H', Q (.bl true) H'
theorem dp_ints {H : Hp} : ∀ ns : List Int, DpAll K H (ns.map V.int) (ns.map PyData.int)
  | [] => .nil
  | n :: r => .cons (.int n) (dp_ints r)
theorem eqv_nil (ns : List Int) : PyData.eqv (.list (ns.map PyData.int)) (.list []) = ns.isEmpty := by
  cases ns with
  | nil => simp [PyData.eqv, PyData.eqvAll]
  | cons n r => simp [PyData.eqv, PyData.eqvAll]
theorem cut8 (ns : List Int) : cutV (ns.map V.int) none (some 8) = (ns.take 8).map V.int := by
  unfold cutV
  rw [HT.sIx_none, show (8 : Int) = ((8 : Nat) : Int) from rfl, HT.sIx_nat, List.drop_zero, List.map_take, Nat.sub_zero, List.length_map]
  by_cases h : ns.length ≤ 8
  · rw [List.take_of_length_le (by rw [List.length_map]; omega), List.take_of_length_le (by rw [List.length_map]; omega)]
  · rw [Nat.min_eq_left (by omega)]
theorem rep_ints (k : Nat) : (List.replicate k [V.int 0]).flatten = (List.replicate k (0 : Int)).map V.int := by
  induction k with
  | zero => rfl
  | succ n ih => rw [List.replicate_succ, List.flatten_cons, ih, List.replicate_succ]; rfl
theorem sign_at {r : Int} (h0 : 0 ≤ r) (h1 : r < 4) : ∃ c, atI ("a| ~" : Str).cps.toList r = some c := by
  have h : r = 0 ∨ r = 1 ∨ r = 2 ∨ r = 3 := by omega
  rcases h with rfl | rfl | rfl | rfl <;> exact ⟨_, rfl⟩
theorem ok_law (T : Txt K mg) : FnG P w K mg base 12 (He.ga K "law") T.fd_law ["script"] (spLaw K) := by
  refine okG T.F_law sc_law (fun vs H Q E h => ?_) (fun cdv A outer s H vs Q E g hr h => ⟨_, PSs.nox
    (pss_cons (ps_set (i := 1) sc_law.nd rfl (.inl rfl) (pe_op op_cat (pe_slice sl_list (pv 0) po_none (po_some pe_int)) (pe_op op_rep (pe_lst (pa_cons pe_int pa_nil)) (pe_callTy call_int1 (by rfl) T.m_int (by decide +kernel) (pa_cons (pe_cmpR (op_eqD hr.units) (pv 0) (pe_lst pa_nil) (nomark _)) pa_nil)))))
      (pss_cons (ps_for PassesOwn.never rfl (pi_range1 (by rfl) T.m_range (pa_cons (pe_callB call_len_seq (by rfl) T.m_len (by decide +kernel) (pa_cons (pv 1) pa_nil)) pa_nil)) (pg_name (i := 2) sc_law.nd rfl (.inl rfl)) (pss_cons (ps_set (i := 3) sc_law.nd rfl (.inl rfl) (pe_call (ok__law_bag T) (hr.mono (by decide)) (by rfl) T.g__law_bag T.F__law_bag.kp T.b__law_bag .nil pass0 (pa_cons (pe_ix ix_list (pv 1) (pv 2) (fun _ _ => rfl)) (pa_cons (pv 2) pa_nil))))
      (pss_cons (ps_set (i := 4) sc_law.nd rfl (.inl rfl) (pe_op op_mulS (pe_ix ix_str pe_str (pe_call (ok__law_draw T) (hr.mono (by decide)) (by rfl) T.g__law_draw T.F__law_draw.kp T.b__law_draw .nil pass0 (pa_cons (pv 3) (pa_cons pe_int pa_nil))) (fun _ _ => rfl)) (pe_call (ok__law_draw T) (hr.mono (by decide)) (by rfl) T.g__law_draw T.F__law_draw.kp T.b__law_draw .nil pass0 (pa_cons (pv 3) (pa_cons pe_int pa_nil)))))
      (pss_one (ps_if (pt_not (pt_val (pe_callG (ok__law_right T) (hr.mono (by decide)) g (by rfl) T.g__law_right T.F__law_right.kp T.b__law_right (pa_cons (pv 4) (pa_cons (pe_call (ok__law_draw T) (hr.mono (by decide)) (by rfl) T.g__law_draw T.F__law_draw.kp T.b__law_draw .nil pass0 (pa_cons (pv 3) (pa_cons (pe_op op_pow pe_int pe_int) pa_nil))) pa_nil))))) (pss_one (ps_ret pe_bl)) pss_nil)))))
      (pss_one (ps_ret pe_bl)))), ?_⟩)
  · obtain ⟨a, ns, rfl, _⟩ := h
    rfl
  · obtain ⟨a, ns, rfl, S, hl, hQ⟩ := h
    have l64 := line64
    refine ⟨_, rfl, _, rfl, a, _, rfl, S, fun p hp => ?_⟩
    have s1 := same_new (o := .lst (cutV (ns.map V.int) none (some 8))) hp
    refine ⟨by decide, fun z hz => ?_⟩
    have s2 := s1.trans (same_new (o := .lst [.int 0]) hz)
    refine ⟨_, rfl, by decide, fun e he => ?_⟩
    have s3 := s2.trans (same_new (o := .lst []) he)
    refine ⟨_, _, .lst (sqL_same s3 S) (dp_ints ns), .lst (sqL_of upd_same) .nil, sh_ints ns, by decide, ?_⟩
    have bk : ∀ x : Bool, (0 : Int) ≤ (if x = true then 1 else 0) ∧ (if x = true then (1 : Int) else 0) ≤ 1 := fun x => by cases x <;> decide
    have hz3 := same_new (o := .lst []) he z _ upd_same
    have hp3 := ((same_new (o := .lst [.int 0]) hz).trans (same_new (o := .lst []) he)) p _ upd_same
    have b1 := bk (PyData.eqv (.list (ns.map PyData.int)) (.list []))
    generalize (if PyData.eqv (.list (ns.map PyData.int)) (.list []) = true then (1 : Int) else 0) = kk at b1
    refine .inr ⟨_, rfl, z, _, _, rfl, rfl, hz3, ?_, ?_, ?_, fun q hq => ⟨p, q, _, _, rfl, rfl, same_new hq _ _ hp3, upd_same, ?_, fun m hm => ?_⟩⟩
    · have := (bk (PyData.eqv (.list (ns.map PyData.int)) (.list []))).1; omega
    · have := (bk (PyData.eqv (.list (ns.map PyData.int)) (.list []))).2; omega
    · have := (bk (PyData.eqv (.list (ns.map PyData.int)) (.list []))).2
      show 1 * _ ≤ _
      omega
    · have := (bk (PyData.eqv (.list (ns.map PyData.int)) (.list []))).2
      rw [rep_ints, List.length_map, List.length_replicate]
      have h1 := cutV_length (ns.map V.int) none (some 8)
      rw [List.length_map] at h1
      omega
    have hm2 := upd_same (H := upd (upd (upd (upd H p (.lst (cutV (ns.map V.int) none (some 8)))) z (.lst [.int 0])) e (.lst [])) q (.lst (List.replicate (if PyData.eqv (.list (ns.map PyData.int)) (.list []) = true then (1 : Int) else 0).toNat [V.int 0]).flatten)) (a := m) (o := .lst (cutV (ns.map V.int) none (some 8) ++ (List.replicate (if PyData.eqv (.list (ns.map PyData.int)) (.list []) = true then (1 : Int) else 0).toNat [V.int 0]).flatten))
    have b2 := bk (PyData.eqv (.list (ns.map PyData.int)) (.list []))
    obtain ⟨cs, hcs, hcl⟩ : ∃ cs : List Int, cutV (ns.map V.int) none (some 8) ++ (List.replicate (if PyData.eqv (.list (ns.map PyData.int)) (.list []) = true then (1 : Int) else 0).toNat [V.int 0]).flatten = cs.map V.int ∧ cs.length ≤ 64 := by
      refine ⟨ns.take 8 ++ List.replicate (if PyData.eqv (.list (ns.map PyData.int)) (.list []) = true then (1 : Int) else 0).toNat (0 : Int), ?_, ?_⟩
      · rw [cut8, rep_ints, List.map_append]
      · rw [List.length_append, List.length_replicate, List.length_take]; omega
    rw [hcs] at hm2 ⊢
    generalize upd (upd (upd (upd (upd H p (.lst (cutV (ns.map V.int) none (some 8)))) z (.lst [.int 0])) e (.lst [])) q (.lst (List.replicate (if PyData.eqv (.list (ns.map PyData.int)) (.list []) = true then (1 : Int) else 0).toNat [V.int 0]).flatten)) m (.lst (cs.map V.int)) = H5 at *
    refine ⟨_, rfl, m, _, rfl, .inl (sqL_of hm2), ((cs.map V.int).length : Int), rfl, by omega, by rw [List.length_map]; omega, ?_⟩
    refine for_range (lo := 0) (n := ((cs.map V.int).length : Int).toNat) (fun i σ H' => H' m = some (.lst (cs.map V.int)) ∧ ∃ y1 y2 y3, σ = [some (.ref a), some (.ref m), y1, y2, y3]) ⟨hm2, _, _, _, rfl⟩ ?_ ?_
    · rintro i σ H' hi ⟨hM, y1, y2, y3, rfl⟩
      rw [Int.zero_add]
      have hi2 : i < cs.length := by rw [List.length_map] at hi; omega
      have hv : (cs.map V.int)[i]? = some (.int cs[i]) := by rw [List.getElem?_map, List.getElem?_eq_getElem hi2]; rfl
      refine ⟨_, rfl, _, rfl, m, _, _, _, rfl, rfl, sqL_of hM, atI_nat hv, _, rfl, _, _, rfl, by omega, by omega, fun b d hb d0 d1 => ?_⟩
      have mb : m ≠ b := ne_of_none hM hb
      have hMb : upd H' b (.lst [.int cs[i].natAbs, .int d]) m = some (.lst (cs.map V.int)) := by rw [upd_ne mb]; exact hM
      refine ⟨_, rfl, b, _, d, 4, rfl, upd_same, d0, by omega, by decide, by decide, fun r c1 r0 r1 => ?_⟩
      obtain ⟨ch, hch⟩ := sign_at r0 r1
      refine ⟨_, r, ch, rfl, rfl, le64 rfl, hch, ?_⟩
      refine ⟨_, rfl, b, c1, d + 1, 60, rfl, upd_same, by omega, by omega, by decide, by decide, fun r2 c2 q0 q1 => ?_⟩
      refine ⟨_, r2, rfl, rfl, rfl, q0, by omega, fun msg => ?_⟩
      refine ⟨_, rfl, _, rfl, _, _, rfl, rfl, ⟨by decide, by decide, by decide⟩, b, c2, d + 1 + 1, _, rfl, upd_same, by omega, by omega, by decide, by decide, fun r3 c3 p0 p1 => ?_⟩
      have e9 : (10 : Int) ^ (9 : Int).toNat = 1000000000 := by decide
      rw [e9] at p1
      refine ⟨msg, r3, rfl, p0, by omega, fun H9 s9 => ⟨_, rfl, iteF ?_⟩⟩
      exact ⟨s9 _ _ (by rw [upd_ne mb, upd_ne mb, upd_ne mb]; exact hMb), _, _, _, rfl⟩
    · rintro σ H' ⟨hM, y1, y2, y3, rfl⟩
      exact hQ H'
end
end L88
set_option maxRecDepth 100000
set_option maxHeartbeats 4000000
namespace L88
open PySem PySem.Spec PyProof.Rows L2 Q7
section
variable {w : World} {K : PySem.W.Frag} {mg : Str → Option Value} {base : Heap}
/-! ### the head -/
abbrev R : PySem.W.OpenRow := PySem.W.OpenLaw.row PySem.Challenge.rw_prepaidplans_k88_errors_are_distinct
abbrev hk : PySem.W.Hook := hookC 6 fas fns [] exs
def ob (s : PySem.W.SharedT) : He.AlT × Bool := obC 6 fas fns [] exs (HandSHeadRun.getT s)
theorem ob_eq (s : PySem.W.SharedT) : ob s = hk.obs s.abs := obC_eq (HandSHeadRun.getT_eq s)
def loose0 : List Str := ["_law_bag", "_law_draw", "_law_marks", "_law_fields_right", "_law_right", "PlanError", "InvalidFraction", "InvalidRow", "InvalidTick", "InvalidName", "InvalidTask", "InvalidPath", "InvalidCourse", "InvalidWeights", "InvalidKind", "InvalidArrows", "InvalidChains", "InvalidShare", "InvalidNames", "InvalidNumber", "InvalidBeginning", "InvalidWord", "InvalidEnd", "NothingRuns", "NothingToUndo", "NotSafe", "InvalidTasks", "InvalidPlan", "TooLarge", "InvalidText"]
def loose1 : List Str := ["InvalidLine", "InvalidFates", "InvalidParts", "NotRisky", "NeverDone", "TooMany", "Overdue"]
def looses : List Str := loose0 ++ loose1
set_option maxHeartbeats 0 in
theorem run (w : World) : HandSHeadRun.RunEqI R (PySem.W.view R.prog [39]) hk ob 12000 looses w := by
  unfold HandSHeadRun.RunEqI
  kernel_rfl
theorem fin {h : Heap} {f : Addr} (X : K.In h) (G : h.Ns mainGlobals mg) (hfa : mg ("law" : Str) = some (.ref f)) (c : He.SaysT fas fns [] w K) (x : (exs.all fun f => f K) = true) :
    ∃ fd : FuncData, (∀ (s : Shared) (v : Value), BindsTo s fd ⟨[v], []⟩ [("script", v)]) ∧ ∀ base : Heap, K.In base → base.Ns mainGlobals mg → FnG P w K mg base 12 f fd ["script"] (spLaw K) := by
  obtain ⟨T⟩ := txt X G c x
  have e := hfa.symm.trans T.g_law
  cases e
  have b := FunD.bindsA (ps := ["script"]) T.F_law fun _ _ _ _ _ _ us hl => match us, hl with | [_], _ => rfl
  exact ⟨T.fd_law, fun s v => b s [v] rfl, fun base _ _ => ok_law T⟩
end
end L88
open PySem PySem.W PySem.Calls PyProof.Rows
theorem PySem.Challenge.cw_prepaidplans_k88_errors_are_distinct_holds : PySem.Challenge.rw_prepaidplans_k88_errors_are_distinct.Holds := by
  w_on; o_law
  refine HandSHeadRun.head_imp (r := OpenLaw.row PySem.Challenge.rw_prepaidplans_k88_errors_are_distinct) (q := view (OpenLaw.row PySem.Challenge.rw_prepaidplans_k88_errors_are_distinct).prog [39]) (H := L88.hk) (ob := L88.ob) (M := 12000) (loose := L88.looses) (d := HandSHeadRun.topDef (OpenLaw.row PySem.Challenge.rw_prepaidplans_k88_errors_are_distinct).prog 39) (kwd := []) L88.ob_eq
    L88.run (by kernel_rfl) (by kernel_rfl) (by kernel_rfl) (by rfl) (by first | assumption | decide +kernel) (by decide +kernel) ⟨rfl, rfl, rfl, rfl, rfl, by decide +kernel⟩ ?hw ?hc
  case hw => w_witness2
  case hc =>
    refine Q7.walk_ofG (l := PySem.Challenge.rw_prepaidplans_k88_errors_are_distinct) (most := 63) (lev := 12) (x := "script") rfl (by decide) (by kernel_rfl) ⟨rfl, by decide, by decide⟩ ?F
    intro w mg fa h Y G hmg0
    obtain ⟨K, KX, c, x⟩ := Y
    have hmg : mg ("law" : PySem.Str) = some (.ref fa) := by
      have e : (HandSHeadRun.topDef (OpenLaw.row PySem.Challenge.rw_prepaidplans_k88_errors_are_distinct).prog 39).name = ("law" : PySem.Str) := by kernel_rfl
      rw [← e]
      exact hmg0
    obtain ⟨fd, hb, hF⟩ := L88.fin (w := w) KX G hmg c x
    exact ⟨K, fd, L88.spLaw K, KX, hb, fun H a ns hl hS => ⟨a, ns, rfl, hS, hl, fun _ => rfl⟩, hF⟩
