import PyProof.Rows.All
import Wide.All
import OpenK.AllK
import Wide.FinOn
import HandS.ForMost
import HandS.Wide
import HandS.NoneIn
import HandS.IsInst
import HandS.Zip
import HandS.Walk
import HandS.Style
import HandS.Conv
import KE.DatumOrd
import PySem.Challenge.RW_rightage_k02_what_brings_and_opens
set_option Elab.async false
set_option linter.all false
set_option maxRecDepth 100000
set_option maxHeartbeats 4000000
namespace Rt
open PySem PySem.Spec PyProof.Rows L2

/-! ### a def of the text as its callers see it -/
structure Cl (P : Program) (w : World) (K : PySem.W.Frag) (mg : Str → Option Value) (base : Heap) (k : Nat) (x : Str) (ps : List Str) (sp : Sp) : Prop where
  ex : ∃ (f : Addr) (fd : FuncData), FnOk P w K mg base CX0 k f fd ps sp ∧ mg x = some (.ref f) ∧ PySem.W.keepIn K (.ref f) = true ∧ Binds K fd ps []
section
variable {X : Cx}
theorem pe_cl {k : Nat} {x : Str} {ps : List Str} {sp : Sp} {p pos : Pos} {e : Expr} {es : List Expr} {t : TA} (C : Cl X.prog X.w X.K X.mg X.base k x ps sp) (hr : Room k X.A) (hg : Gl X x) (ha : PA X (e :: es) t)
    (hdb : (x == ("__debug__" : Str)) = false := by decide) (he : starEach (e :: es) X.env = (false, eval e X.env) :: starEach es X.env := by rfl) (hpl : (backTo pos (starEach es X.env)).any (·.1) = false := by rfl) :
    PE X (.Call (.Name x p) (e :: es) [] pos) (tCall sp [] E0 t) := by
  obtain ⟨f, fd, F, hm, hk, hb⟩ := C.ex
  exact pe_call F hr hg hm hk hb .nil pass0 ha hdb he hpl
end


/-! ### rules that hand on letters -/
section
variable {X : Cx}
theorem OpR.weak {f : Value → Value → Sem Value} {r r' : R2} (o : OpR X f r) (m : ∀ x y H Q, r' x y H Q → r x y H Q) : OpR X f r' := fun pn s σ H x y v u Q I a b q => o pn s σ H x y v u Q I a b (m _ _ _ _ q)
def rModL : R2 := fun x y H Q => ∃ i j : Int, x = .int i ∧ y = .int j ∧ 0 < j ∧ ∀ z : Int, z = i % j → 0 ≤ z → z < j → Q (.int z) H
theorem op_modL : OpR X (binaryOp .Mod) rModL := OpR.weak op_mod fun x y H Q h => by
  obtain ⟨i, j, rfl, rfl, hj, q⟩ := h
  exact ⟨i, j, rfl, rfl, hj, q _ rfl (Int.emod_nonneg _ (by omega)) (Int.emod_lt_of_pos _ hj)⟩
def rPowL : R2 := fun x y H Q => ∃ i j : Int, x = .int i ∧ y = .int j ∧ 0 ≤ j ∧ j ≤ 1000000 ∧ i.natAbs < 2 ^ 64 ∧ ∀ z : Int, z = i ^ j.toNat → Q (.int z) H
theorem op_powL : OpR X (binaryOp .Pow) rPowL := OpR.weak op_pow fun x y H Q h => by
  obtain ⟨i, j, rfl, rfl, h0, h1, h2, q⟩ := h
  exact ⟨i, j, rfl, rfl, ⟨h0, h1, h2⟩, q _ rfl⟩
def rMulL : R2 := fun x y H Q => ∃ i j : Int, x = .int i ∧ y = .int j ∧ CMul i j ∧ ∀ z : Int, z = i * j → Q (.int z) H
theorem op_mulL : OpR X (binaryOp .Mult) rMulL := OpR.weak op_mul fun x y H Q h => by
  obtain ⟨i, j, rfl, rfl, h2, q⟩ := h
  exact ⟨i, j, rfl, rfl, h2, q _ rfl⟩
def rAddL : R2 := fun x y H Q => ∃ i j : Int, x = .int i ∧ y = .int j ∧ ∀ z : Int, z = i + j → Q (.int z) H
theorem op_addL : OpR X (binaryOp .Add) rAddL := OpR.weak op_add fun x y H Q h => by
  obtain ⟨i, j, rfl, rfl, q⟩ := h
  exact ⟨i, j, rfl, rfl, q _ rfl⟩
def rSubL : R2 := fun x y H Q => ∃ i j : Int, x = .int i ∧ y = .int j ∧ ∀ z : Int, z = i - j → Q (.int z) H
theorem op_subL : OpR X (binaryOp .Sub) rSubL := OpR.weak op_sub fun x y H Q h => by
  obtain ⟨i, j, rfl, rfl, q⟩ := h
  exact ⟨i, j, rfl, rfl, q _ rfl⟩
def rDivL : R2 := fun x y H Q => ∃ i j : Int, x = .int i ∧ y = .int j ∧ CDivW i j ∧ ∀ z : Int, z = i / j → Q (.int z) H
theorem op_divL : OpR X (binaryOp .FloorDiv) rDivL := OpR.weak op_fdivW fun x y H Q h => by
  obtain ⟨i, j, rfl, rfl, h2, q⟩ := h
  exact ⟨i, j, rfl, rfl, h2, q _ rfl⟩
def rSetLL : V → V → V → Hp → (Hp → Prop) → Prop := fun o i v H Q => ∃ p xs k j, o = .ref p ∧ i = .int k ∧ H p = some (.lst xs) ∧ ixN xs.length k = some j ∧ ∀ H', H' = upd H p (.lst (xs.set j v)) → Q H'
theorem set_listL : PSet X rSetLL := fun pn s σ H o i v ov iv u Q I a b c h => set_list pn s σ H o i v ov iv u Q I a b c (by
  obtain ⟨p, xs, k, j, e1, e2, e3, e4, q⟩ := h
  exact ⟨p, xs, k, j, e1, e2, e3, e4, q _ rfl⟩)
def tTupL (t : TA) : TE := fun σ H Q => t σ H fun xs H1 => xs.length ≤ sizeLine ∧ ∀ p H2, H1 p = none → H2 = upd H1 p (.tup xs) → Q (.ref p) H2
def tLstL (t : TA) : TE := fun σ H Q => t σ H fun xs H1 => xs.length ≤ sizeLine ∧ ∀ p H2, H1 p = none → H2 = upd H1 p (.lst xs) → Q (.ref p) H2
/-- consequence -/
theorem PA.weak {es : List Expr} {t t' : TA} (h : PA X es t) (m : ∀ σ H Q, t' σ H Q → ∃ Q', t σ H Q' ∧ ∀ v H', Q' v H' → Q v H') : PA X es t' := ⟨fun po pn s σ H Q I q => by
  obtain ⟨Q', a, b⟩ := m _ _ _ q
  exact wpAny_mono (h.run po pn s σ H Q' I a) (fun us s1 ⟨vs, H1, I1, r1, q1⟩ => ⟨vs, H1, I1, r1, b _ _ q1⟩) fun _ _ z => z⟩
theorem pe_tupL {es : List Expr} {t : TA} {x1} {pos : Pos} (h : PA X es t) : PE X (.Tuple es x1 pos) (tTupL t) :=
  ⟨fun pn s σ H Q I q => (pe_tup (x1 := x1) (pos := pos) (PA.weak (t' := fun σ H Q => ∃ Q', t σ H Q' ∧ ∀ v H', Q' v H' → Q v H') h fun _ _ _ z => z)).run pn s σ H Q I ⟨_, q, fun xs H1 z => ⟨z.1, fun p hp => z.2 p _ hp rfl⟩⟩⟩
theorem pe_lstL {es : List Expr} {t : TA} {pos : Pos} (h : PA X es t) : PE X (.List es pos) (tLstL t) :=
  ⟨fun pn s σ H Q I q => (pe_lst (pos := pos) (PA.weak (t' := fun σ H Q => ∃ Q', t σ H Q' ∧ ∀ v H', Q' v H' → Q v H') h fun _ _ _ z => z)).run pn s σ H Q I ⟨_, q, fun xs H1 z => ⟨z.1, fun p hp => z.2 p _ hp rfl⟩⟩⟩
end

/-! ### the drawn list: cells, the turn, the rests -/
structure Gd where
  d : Addr
  c : Addr
  r : Addr
  n : Nat
structure Dr (g : Gd) (t : Int) (H : Hp) : Prop where
  hd : H g.d = some (.lst [.ref g.c, .int t, .ref g.r])
  hc : ∃ cs : List Int, H g.c = some (.lst (cs.map V.int)) ∧ cs.length = g.n
  hr : ∃ rs : List Int, H g.r = some (.lst (rs.map V.int)) ∧ rs.length = g.n
  dc : g.d ≠ g.c
  dr : g.d ≠ g.r
  cr : g.c ≠ g.r
  n0 : 0 < g.n
  n63 : g.n ≤ 63
  t0 : 0 ≤ t
/-- so many draws may still come -/
def Fu (g : Gd) (B : Nat) (H : Hp) : Prop := ∃ t : Int, Dr g t H ∧ t + B ≤ 1000000
/-- all but the drawn list's own things is as it was -/
def Kp (g : Gd) (H H' : Hp) : Prop := ∀ p o, p ≠ g.d → p ≠ g.r → H p = some o → H' p = some o
/-- tuples are as they were -/
def Tk (H H' : Hp) : Prop := ∀ p xs, H p = some (.tup xs) → H' p = some (.tup xs)
structure Gd.Off (g : Gd) (p : Addr) : Prop where
  d : p ≠ g.d
  c : p ≠ g.c
  r : p ≠ g.r
theorem Kp.refl (g : Gd) (H : Hp) : Kp g H H := fun _ _ _ _ h => h
theorem Kp.trans {g : Gd} {H H1 H2 : Hp} (a : Kp g H H1) (b : Kp g H1 H2) : Kp g H H2 := fun p o h1 h2 h => b p o h1 h2 (a p o h1 h2 h)
theorem Kp.new {g : Gd} {H : Hp} {p : Addr} {o : HO} (h : H p = none) : Kp g H (upd H p o) := fun q u _ _ e => by
  rw [upd_ne (ne_of_none e h)]
  exact e
/-- what H does not know may change -/
theorem Kp.mut {g : Gd} {H H' : Hp} {p : Addr} {o : HO} (e : Kp g H H') (h : H p = none) : Kp g H (upd H' p o) := fun a u h1 h2 ha => by
  rw [upd_ne (ne_of_none ha h)]
  exact e a u h1 h2 ha
theorem Kp.off {g : Gd} {H H' : Hp} {p : Addr} {o : HO} (a : Kp g H H') (f : g.Off p) (h : H p = some o) : H' p = some o := a p o f.d f.r h
theorem Tk.refl (H : Hp) : Tk H H := fun _ _ h => h
theorem Tk.trans {H H1 H2 : Hp} (a : Tk H H1) (b : Tk H1 H2) : Tk H H2 := fun p xs h => b p xs (a p xs h)
theorem Tk.new {H : Hp} {p : Addr} {o : HO} (h : H p = none) : Tk H (upd H p o) := fun q u e => by
  rw [upd_ne (ne_of_none e h)]
  exact e
theorem Tk.lst {H : Hp} {p : Addr} {xs ys : List V} (h : H p = some (.lst xs)) : Tk H (upd H p (.lst ys)) := fun q u e => by
  rw [upd_ne (fun z => by rw [z, h] at e; cases e)]
  exact e
theorem Fu.mono {g : Gd} {B B' : Nat} {H : Hp} (h : Fu g B H) (e : B' ≤ B) : Fu g B' H := by
  obtain ⟨t, a, b⟩ := h
  exact ⟨t, a, by omega⟩
theorem Fu.tk {g : Gd} {B : Nat} {H H' : Hp} (h : Fu g B H) (k : Kp g H H') : Tk H H' := fun p xs e => by
  obtain ⟨t, a, b⟩ := h
  obtain ⟨rs, hr, _⟩ := a.hr
  exact k p _ (fun z => by rw [z, a.hd] at e; cases e) (fun z => by rw [z, hr] at e; cases e) e
theorem Fu.off {g : Gd} {B : Nat} {H : Hp} {p : Addr} (h : Fu g B H) (e : H p = none) : g.Off p := by
  obtain ⟨t, a, b⟩ := h
  obtain ⟨rs, hr, _⟩ := a.hr
  obtain ⟨cs, hc, _⟩ := a.hc
  exact ⟨fun z => (by rw [z, a.hd] at e; cases e), fun z => (by rw [z, hc] at e; cases e), fun z => (by rw [z, hr] at e; cases e)⟩
theorem Fu.upd {g : Gd} {B : Nat} {H : Hp} {p : Addr} {o : HO} (h : Fu g B H) (f : g.Off p) : Fu g B (L2.upd H p o) := by
  obtain ⟨t, a, b⟩ := h
  obtain ⟨cs, hc, ec⟩ := a.hc
  obtain ⟨rs, hr, er⟩ := a.hr
  refine ⟨t, ⟨?_, ⟨cs, ?_, ec⟩, ⟨rs, ?_, er⟩, a.dc, a.dr, a.cr, a.n0, a.n63, a.t0⟩, b⟩
  · rw [upd_ne f.d.symm]; exact a.hd
  · rw [upd_ne f.c.symm]; exact hc
  · rw [upd_ne f.r.symm]; exact hr
theorem Fu.new {g : Gd} {B : Nat} {H : Hp} {p : Addr} {o : HO} (h : Fu g B H) (e : H p = none) : Fu g B (L2.upd H p o) := h.upd (h.off e)
theorem sz {n : Nat} (h : n ≤ 100000) : n ≤ sizeLine := Nat.le_trans h (by decide)
theorem szl {n : Nat} (h : n < 100000) : n < sizeLine := Nat.lt_of_lt_of_le h (by decide)
theorem atI_in {α : Type} {xs : List α} {i : Int} (h0 : 0 ≤ i) (h : i < xs.length) : ∃ v, atI xs i = some v ∧ v ∈ xs ∧ xs[i.toNat]? = some v := by
  have h2 : i.toNat < xs.length := by omega
  have e : xs[i.toNat]? = some xs[i.toNat] := List.getElem?_eq_getElem h2
  refine ⟨xs[i.toNat], ?_, List.getElem_mem h2, e⟩
  have := atI_nat e
  rwa [Int.toNat_of_nonneg h0] at this
theorem ixN_in {n : Nat} {i : Int} (h0 : 0 ≤ i) (h : i < n) : ixN n i = some i.toNat := by
  unfold ixN
  rw [if_pos h0, if_pos h]

/-! ### comprehensions that draw -/
theorem lcR {g : Gd} {lo : Int} {n : Nat} {gt : TG} {tt : TT} {te : TE} {vs : List Nat} {σ : L2.St} {H1 : Hp} {D : Addr} {Qd : Hp → Prop} {B : Nat} (c : Nat) (Pt : Hp → V → Prop) (Pl : Nat → List V → Prop) (hD : H1 D = none) (hF : Fu g B H1) (hn : n ≤ 1000) (hB : n * c ≤ B)
    (mono : ∀ H H' x, Tk H H' → Pt H x → Pt H' x) (p0 : Pl 0 [])
    (hs : ∀ i H (B' : Nat), i < n → Fu g B' H → c ≤ B' → Kp g H1 H → ∀ (Qk : VK) (Qs : Hp → Prop),
      (∀ y H', Fu g (B' - c) H' → Kp g H H' → Pt H' y → (∀ acc, Pl i acc → Pl (i + 1) (acc ++ [y])) → Qk y H') → (∀ H', Fu g (B' - c) H' → Kp g H H' → (∀ acc, Pl i acc → Pl (i + 1) acc) → Qs H') →
      gt (.int (lo + i)) (wipe σ vs) H fun σ2 H2 => wipe σ2 vs = wipe σ vs ∧ tt σ2 H2 fun b H3 => if b = true then te σ2 H3 Qk else Qs H3)
    (hd : ∀ H acc, Fu g (B - n * c) H → Kp g H1 H → H D = some (.lst acc) → acc.length ≤ n → Pl n acc → (∀ x ∈ acc, Pt H x) → Qd H) :
    ∃ W : Nat → Nat → Hp → Prop, (∃ m, W 0 m (upd H1 D (.lst []))) ∧ ∀ i m H, W i m H →
      ((Itr lo n).stop i H ∧ Qd H) ∨ ((Itr lo n).go i H ∧ ∃ Nx : Hp → Prop, (∀ H', Nx H' → ∃ m', m' < m ∧ W (i + 1) m' H') ∧ ∀ x H', (Itr lo n).yld i H x H' → gt x (wipe σ vs) H' fun σ2 H2 => wipe σ2 vs = wipe σ vs ∧ tt σ2 H2 fun b H3 =>
        if b = true then te σ2 H3 fun y H4 => ∃ acc, H4 D = some (.lst acc) ∧ acc.length < sizeLine ∧ Nx (upd H4 D (.lst (acc ++ [y]))) else Nx H3) := by
  have oD := hF.off hD
  refine lc_range (Pv := fun i H => i ≤ n ∧ ∃ B', B' + i * c = B ∧ Fu g B' H ∧ Kp g H1 H ∧ ∃ acc, H D = some (.lst acc) ∧ acc.length ≤ i ∧ Pl i acc ∧ ∀ x ∈ acc, Pt H x) ⟨Nat.zero_le _, B, by omega, hF.upd oD, Kp.new hD, [], upd_same, Nat.le_refl _, p0, fun x h => nomatch h⟩ (fun i H hi p => ?_) (fun H p => ?_)
  · obtain ⟨_, B', eB, f, k, acc, eD, el, pl, al⟩ := p
    have h1 : (i + 1) * c ≤ n * c := Nat.mul_le_mul_right c hi
    have h2 : (i + 1) * c = i * c + c := Nat.succ_mul i c
    refine hs i H B' hi f (by omega) k _ _ (fun y H' f' k' py ply => ?_) (fun H' f' k' ply => ?_)
    · have eD' := k'.off oD eD
      refine ⟨acc, eD', szl (by omega), hi, B' - c, by omega, f'.upd oD, (k.trans k').mut hD, acc ++ [y], upd_same, by rw [List.length_append]; simp; omega, ply acc pl, fun x hx => ?_⟩
      rcases List.mem_append.mp hx with hx | hx
      · exact mono _ _ _ (Tk.lst eD') (mono _ _ _ (f.tk k') (al x hx))
      · have e : x = y := by simpa using hx
        subst e
        exact mono _ _ _ (Tk.lst eD') py
    · exact ⟨hi, B' - c, by omega, f', k.trans k', acc, k'.off oD eD, by omega, ply acc pl, fun x hx => mono _ _ _ (f.tk k') (al x hx)⟩
  · obtain ⟨_, B', eB, f, k, acc, eD, el, pl, al⟩ := p
    exact hd H acc (f.mono (by omega)) k eD el pl al
theorem lcT {K : PySem.W.Frag} {a : Addr} {xs : List V} {g : Gd} {gt : TG} {tt : TT} {te : TE} {vs : List Nat} {σ : L2.St} {H1 : Hp} {D : Addr} {Qd : Hp → Prop} {B : Nat} (c : Nat) (Pt : Hp → V → Prop) (Pl : Nat → List V → Prop) (hD : H1 D = none) (hF : Fu g B H1) (hn : xs.length ≤ 1000) (hB : xs.length * c ≤ B)
    (hx : H1 a = some (.tup xs)) (mono : ∀ H H' x, Tk H H' → Pt H x → Pt H' x) (p0 : Pl 0 [])
    (hs : ∀ i x H (B' : Nat), xs[i]? = some x → Fu g B' H → c ≤ B' → Kp g H1 H → ∀ (Qk : VK) (Qs : Hp → Prop),
      (∀ y H', Fu g (B' - c) H' → Kp g H H' → Pt H' y → (∀ acc, Pl i acc → Pl (i + 1) (acc ++ [y])) → Qk y H') → (∀ H', Fu g (B' - c) H' → Kp g H H' → (∀ acc, Pl i acc → Pl (i + 1) acc) → Qs H') →
      gt x (wipe σ vs) H fun σ2 H2 => wipe σ2 vs = wipe σ vs ∧ tt σ2 H2 fun b H3 => if b = true then te σ2 H3 Qk else Qs H3)
    (hd : ∀ H acc, Fu g (B - xs.length * c) H → Kp g H1 H → H D = some (.lst acc) → acc.length ≤ xs.length → Pl xs.length acc → (∀ x ∈ acc, Pt H x) → Qd H) :
    ∃ W : Nat → Nat → Hp → Prop, (∃ m, W 0 m (upd H1 D (.lst []))) ∧ ∀ i m H, W i m H →
      ((Itt K a).stop i H ∧ Qd H) ∨ ((Itt K a).go i H ∧ ∃ Nx : Hp → Prop, (∀ H', Nx H' → ∃ m', m' < m ∧ W (i + 1) m' H') ∧ ∀ x H', (Itt K a).yld i H x H' → gt x (wipe σ vs) H' fun σ2 H2 => wipe σ2 vs = wipe σ vs ∧ tt σ2 H2 fun b H3 =>
        if b = true then te σ2 H3 fun y H4 => ∃ acc, H4 D = some (.lst acc) ∧ acc.length < sizeLine ∧ Nx (upd H4 D (.lst (acc ++ [y]))) else Nx H3) := by
  have oD := hF.off hD
  refine lc_tup (xs := xs) (Pv := fun i H => i ≤ xs.length ∧ ∃ B', B' + i * c = B ∧ Fu g B' H ∧ Kp g H1 H ∧ ∃ acc, H D = some (.lst acc) ∧ acc.length ≤ i ∧ Pl i acc ∧ ∀ x ∈ acc, Pt H x) ⟨Nat.zero_le _, B, by omega, hF.upd oD, Kp.new hD, [], upd_same, Nat.le_refl _, p0, fun x h => nomatch h⟩ (fun i H _ p => ?_) (fun i x H hi p => ?_) (fun H p => ?_)
  · obtain ⟨_, B', eB, f, k, acc, eD, el, pl, al⟩ := p
    exact SqT.of (hF.tk k a xs hx)
  · obtain ⟨_, B', eB, f, k, acc, eD, el, pl, al⟩ := p
    have hi' : i < xs.length := (List.getElem?_eq_some_iff.mp hi).1
    have h1 : (i + 1) * c ≤ xs.length * c := Nat.mul_le_mul_right c hi'
    have h2 : (i + 1) * c = i * c + c := Nat.succ_mul i c
    refine hs i x H B' hi f (by omega) k _ _ (fun y H' f' k' py ply => ?_) (fun H' f' k' ply => ?_)
    · have eD' := k'.off oD eD
      refine ⟨acc, eD', szl (by omega), hi', B' - c, by omega, f'.upd oD, (k.trans k').mut hD, acc ++ [y], upd_same, by rw [List.length_append]; simp; omega, ply acc pl, fun x hx => ?_⟩
      rcases List.mem_append.mp hx with hx | hx
      · exact mono _ _ _ (Tk.lst eD') (mono _ _ _ (f.tk k') (al x hx))
      · have e : x = y := by simpa using hx
        subst e
        exact mono _ _ _ (Tk.lst eD') py
    · exact ⟨hi', B' - c, by omega, f', k.trans k', acc, k'.off oD eD, by omega, ply acc pl, fun x hx => mono _ _ _ (f.tk k') (al x hx)⟩
  · obtain ⟨_, B', eB, f, k, acc, eD, el, pl, al⟩ := p
    exact hd H acc (f.mono (by omega)) k eD el pl al
end Rt
namespace Rt
open PySem PySem.Spec PyProof.Rows L2
section
variable {X : Cx}
/-! ### 'm' * n -/
theorem fold_app : ∀ (l : List (Array Nat)) (b : Array Nat), (l.foldl (· ++ ·) b).toList = b.toList ++ (l.map Array.toList).flatten
  | [], b => by simp
  | x :: r, b => by
    show (r.foldl (· ++ ·) (b ++ x)).toList = _
    rw [fold_app r (b ++ x)]
    simp
def rRepS : R2 := fun x y H Q => ∃ (z : Str) (n : Int), x = .str z ∧ y = .int n ∧ 1 ≤ n ∧ n ≤ 100 ∧ 0 < z.length ∧ z.length ≤ 100 ∧ ∀ r : Str, r.cps.toList = (List.replicate n.toNat z.cps.toList).flatten → r.length = n.toNat * z.length → Q (.str r) H
theorem op_repS : OpR X (binaryOp .Mult) rRepS := by
  intro pn s σ H x y v u Q I rx ry h
  obtain ⟨z, n, rfl, rfl, h1, h2, h3, h4, q⟩ := h
  obtain ⟨t, rfl⟩ := rx
  obtain ⟨t', rfl⟩ := ry
  have hl : z.length * n.toNat ≤ 10000 := Nat.le_trans (Nat.mul_le_mul h4 (show n.toNat ≤ 100 by omega)) (by decide)
  have el : ∀ r : Str, r.cps.toList = (List.replicate n.toNat z.cps.toList).flatten → r.length = n.toNat * z.length := fun r e => by
    show r.cps.size = _
    rw [← Array.length_toList, e, List.length_flatten, List.map_replicate, List.sum_replicate_nat]
    show n.toNat * z.cps.toList.length = n.toNat * z.cps.size
    rw [Array.length_toList]
  refine PySem.P.mul_str ?_ (fun _ _ => ?_) (fun _ _ => ?_) ?_
  · rw [decide_eq_false (by omega), decide_eq_false (by omega)]; rfl
  · have : (100 : Int) ≤ (2 ^ 63 - 1) / n := (Int.le_ediv_iff_mul_le (by omega)).mpr (by omega)
    omega
  · show decide (z.length * n.toNat > sizeLine) = false
    exact decide_eq_false (by have := sz (n := z.length * n.toNat) (by omega); omega)
  · rw [if_neg (by omega)]
    by_cases e : n = 1
    · subst e
      rw [if_pos (by rfl)]
      have e1 : z.cps.toList = (List.replicate (1 : Int).toNat z.cps.toList).flatten := by simp
      exact ⟨.str z, H, I, ⟨_, rfl⟩, q z e1 (el z e1)⟩
    · rw [if_neg (by simp [e]; omega)]
      have e1 : (⟨(List.replicate n.toNat z.cps).foldl (· ++ ·) #[]⟩ : Str).cps.toList = (List.replicate n.toNat z.cps.toList).flatten := by
        show ((List.replicate n.toNat z.cps).foldl (· ++ ·) #[]).toList = _
        rw [fold_app, List.map_replicate]
        rfl
      refine ⟨?_, ⟨.str _, H, I.tok _, ⟨_, rfl⟩, q _ e1 (el _ e1)⟩⟩
      rw [el _ e1, Nat.mul_comm]
      exact sz (by omega)
/-! ### min, max of a tuple of ints -/
theorem holds_ints {h : Heap} : ∀ {ns : List Int} {us : List Value}, Vals (ns.map V.int) us → PySem.W.HoldAll h us ns
  | [], _, .nil => .nil
  | n :: r, _, .cons a t => by
    obtain ⟨tk, rfl⟩ := a
    exact .cons ⟨_, .int n tk⟩ (holds_ints t)
theorem minOf_le : ∀ (xs : List Int) (x : Int), PySem.W.minOf x xs ∈ x :: xs ∧ ∀ y ∈ x :: xs, PySem.W.minOf x xs ≤ y
  | [], x => ⟨List.mem_cons_self, fun y h => (by
    have e : y = x := by simpa using h
    subst e
    exact Int.le_refl _)⟩
  | z :: r, x => by
    have ih := minOf_le r (if z < x then z else x)
    have e : PySem.W.minOf x (z :: r) = PySem.W.minOf (if z < x then z else x) r := by
      show r.foldl _ (if decide (z < x) = true then z else x) = r.foldl _ (if z < x then z else x)
      simp only [decide_eq_true_eq]
    rw [e]
    have hm := ih.2 _ List.mem_cons_self
    have hx : (if z < x then z else x) ≤ x := by split <;> omega
    have hz : (if z < x then z else x) ≤ z := by split <;> omega
    refine ⟨?_, fun y h => ?_⟩
    · rcases List.mem_cons.mp ih.1 with h | h
      · rw [h]; split <;> simp
      · exact List.mem_cons_of_mem _ (List.mem_cons_of_mem _ h)
    · rcases List.mem_cons.mp h with h | h
      · rw [h]; exact Int.le_trans hm hx
      · rcases List.mem_cons.mp h with h | h
        · rw [h]; exact Int.le_trans hm hz
        · exact ih.2 y (List.mem_cons_of_mem _ h)
theorem maxOf_ge : ∀ (xs : List Int) (x : Int), PySem.W.maxOf x xs ∈ x :: xs ∧ ∀ y ∈ x :: xs, y ≤ PySem.W.maxOf x xs
  | [], x => ⟨List.mem_cons_self, fun y h => (by
    have e : y = x := by simpa using h
    subst e
    exact Int.le_refl _)⟩
  | z :: r, x => by
    have ih := maxOf_ge r (if x < z then z else x)
    have e : PySem.W.maxOf x (z :: r) = PySem.W.maxOf (if x < z then z else x) r := by
      show r.foldl _ (if decide (x < z) = true then z else x) = r.foldl _ (if x < z then z else x)
      simp only [decide_eq_true_eq]
    rw [e]
    have hm := ih.2 _ List.mem_cons_self
    have hx : x ≤ (if x < z then z else x) := by split <;> omega
    have hz : z ≤ (if x < z then z else x) := by split <;> omega
    refine ⟨?_, fun y h => ?_⟩
    · rcases List.mem_cons.mp ih.1 with h | h
      · rw [h]; split <;> simp
      · exact List.mem_cons_of_mem _ (List.mem_cons_of_mem _ h)
    · rcases List.mem_cons.mp h with h | h
      · rw [h]; exact Int.le_trans hx hm
      · rcases List.mem_cons.mp h with h | h
        · rw [h]; exact Int.le_trans hz hm
        · exact ih.2 y (List.mem_cons_of_mem _ h)
def rMinT (K : PySem.W.Frag) : List V → Hp → VK → Prop := fun vs H Q => ∃ (a : Addr) (ns : List Int), vs = [V.ref a] ∧ SqT K H a (ns.map V.int) ∧ 0 < ns.length ∧ ∀ m, m ∈ ns → (∀ y, y ∈ ns → m ≤ y) → Q (.int m) H
def rMaxT (K : PySem.W.Frag) : List V → Hp → VK → Prop := fun vs H Q => ∃ (a : Addr) (ns : List Int), vs = [V.ref a] ∧ SqT K H a (ns.map V.int) ∧ 0 < ns.length ∧ ∀ m, m ∈ ns → (∀ y, y ∈ ns → y ≤ m) → Q (.int m) H
theorem cr_minT (hc : X.calm = true) (hu : X.A.units + 64 < cLine) : CallR X (.builtin "min") (rMinT X.K) := by
  intro pn s σ H vs us Q I r h
  obtain ⟨a, ns, rfl, hs, hne, q⟩ := h
  obtain ⟨its, rv, hl, _⟩ := I.tuple hs
  rw [Vals.ref1 r]
  cases ns with
  | nil => exact absurd hne (by decide)
  | cons x xs =>
    have hH : PySem.W.HoldAll s.heap its.toArray.toList (x :: xs) := holds_ints (ns := x :: xs) rv
    refine PySem.W.min_tuple_datum (I.ok.hd hc) hl hH (by show X.A.units + 1 + 0 < cLine; omega) fun i v h' tk hv ho hk => ?_
    obtain ⟨as, ho⟩ := ho
    cases ho with
    | int _ t => exact ⟨.int _, H, I.kept hk, ⟨_, rfl⟩, q _ (minOf_le xs x).1 (minOf_le xs x).2⟩
theorem cr_maxT (hc : X.calm = true) (hu : X.A.units + 64 < cLine) : CallR X (.builtin "max") (rMaxT X.K) := by
  intro pn s σ H vs us Q I r h
  obtain ⟨a, ns, rfl, hs, hne, q⟩ := h
  obtain ⟨its, rv, hl, _⟩ := I.tuple hs
  rw [Vals.ref1 r]
  cases ns with
  | nil => exact absurd hne (by decide)
  | cons x xs =>
    have hH : PySem.W.HoldAll s.heap its.toArray.toList (x :: xs) := holds_ints (ns := x :: xs) rv
    refine PySem.W.max_tuple_datum (I.ok.hd hc) hl hH (by show X.A.units + 1 + 0 < cLine; omega) fun i v h' tk hv ho hk => ?_
    obtain ⟨as, ho⟩ := ho
    cases ho with
    | int _ t => exact ⟨.int _, H, I.kept hk, ⟨_, rfl⟩, q _ (maxOf_ge xs x).1 (maxOf_ge xs x).2⟩
end
end Rt
namespace Rt
open PySem PySem.Spec PyProof.Rows L2
section
variable {prog : Program} {w : World} {A : Around} {E : Value → Shared → Prop} {s : Shared}
theorem sa_rev {sl : Addr} {vl vu vk : Value} {n : Nat} {Q : Int × Int × Nat → Shared → Prop} (hs : s.heap.IsSliceOf sl vl vu vk) (pl : IsPart vl none) (pu : IsPart vu none) (pk : IsPart vk (some (-1)))
    (h : Q ((n : Int) - 1, -1, n) s) : wpAny (model prog w) A (Builtin.Slice.sliceApplied (.ref sl) (pure (n : Int))) Q E s := by
  obtain ⟨os, hos, hcs, hds⟩ := id hs
  unfold Builtin.Slice.sliceApplied Builtin.Slice.sliceFields
  refine wpAny_bind (wpAny_bind (wpAny_field hos hds (x := vl) rfl (wpAny_bind (wpAny_field hos hds (x := vu) rfl (wpAny_bind (wpAny_field hos hds (x := vk) rfl (wpAny_pure ?_)))))))
  refine wpAny_bind (HT.slicePart_ pk ?_)
  show wpAny _ _ (if ((-1 : Int) == 0) = true then _ else _) _ _ s
  rw [if_neg (by decide)]
  refine wpAny_bind (HT.slicePart_ pl (wpAny_bind (HT.slicePart_ pu (wpAny_bind (wpAny_pure ?_)))))
  have e1 : Builtin.Slice.sliceAdjust none none (-1) (n : Int) = ((n : Int) - 1, -1) := by
    unfold Builtin.Slice.sliceAdjust
    simp
  have e2 : Builtin.Slice.slicePlaces ((n : Int) - 1) (-1) (-1) = n := by
    unfold Builtin.Slice.slicePlaces
    rw [if_neg (by decide)]
    by_cases hn : (n : Int) - 1 > -1
    · rw [if_pos hn, show (-(-1) : Int) = 1 by decide, Int.ediv_one]
      omega
    · rw [if_neg hn]
      omega
  show wpAny _ _ (match Builtin.Slice.sliceAdjust none none (-1) (n : Int) with | (lo, hi) => pure (lo, (-1 : Int), Builtin.Slice.slicePlaces lo hi (-1))) _ _ s
  rw [e1]
  show wpAny _ _ (pure ((n : Int) - 1, (-1 : Int), Builtin.Slice.slicePlaces ((n : Int) - 1) (-1) (-1))) _ _ s
  rw [e2]
  exact wpAny_pure h
theorem fm_congr {α β : Type} {f g : α → Option β} : ∀ {l : List α}, (∀ x ∈ l, f x = g x) → l.filterMap f = l.filterMap g
  | [], _ => rfl
  | a :: r, h => by
    rw [List.filterMap_cons, List.filterMap_cons, h a List.mem_cons_self, fm_congr fun x hx => h x (List.mem_cons_of_mem _ hx)]
theorem pick_rev (xs : Array Value) : ((List.range xs.size).filterMap fun (m : Nat) => xs[(((xs.size : Int) - 1) + (m : Int) * (-1)).toNat]?).toArray = xs.toList.reverse.toArray := by
  congr 1
  have e : (List.range xs.size).filterMap (fun (m : Nat) => xs[(((xs.size : Int) - 1) + (m : Int) * (-1)).toNat]?) = (List.range xs.size).filterMap (fun (m : Nat) => xs.toList.reverse[m]?) := by
    refine fm_congr fun m hm => ?_
    have hm := List.mem_range.mp hm
    have e2 : (((xs.size : Int) - 1) + (m : Int) * (-1)).toNat = xs.size - 1 - m := by omega
    rw [e2, List.getElem?_reverse (by rw [Array.length_toList]; exact hm), Array.length_toList, Array.getElem?_toList]
  rw [e]
  have g : ∀ l : List Value, (List.range l.length).filterMap (fun m => l[m]?) = l := by
    intro l
    induction l with
    | nil => rfl
    | cons a r ih =>
      rw [List.length_cons, List.range_succ_eq_map, List.filterMap_cons]
      simp only [List.getElem?_cons_zero, List.filterMap_map]
      congr 1
  have := g xs.toList.reverse
  rwa [List.length_reverse, Array.length_toList] at this
theorem item_rev {t sl : Addr} {items : Array Value} {vl vu vk : Value} {Q : Value → Shared → Prop} (ht : IsTup s.heap t items) (hs : s.heap.IsSliceOf sl vl vu vk) (pl : IsPart vl none) (pu : IsPart vu none) (pk : IsPart vk (some (-1)))
    (h : Q (.ref s.heap.objs.size) { s with heap := s.heap.push { cls := .type "tuple", data := .seq items.toList.reverse.toArray } })
    (hsz : items.size ≤ sizeLine) : wpAny (model prog w) A (getItem (.ref t) (.ref sl)) Q E s := by
  have htk : sizeOk (.seq items.toList.reverse.toArray) := by
    show items.toList.reverse.toArray.size ≤ sizeLine
    rw [List.size_toArray, List.length_reverse, Array.length_toList]
    exact hsz
  obtain ⟨os, hos, hcs, hds⟩ := id hs
  have hT2 : s.TypeIs (.ref sl) "slice" := ⟨os, hos, hcs⟩
  unfold getItem
  try with_reducible refine wpAny_holding ?_
  first | refine wpAny_bind (wpAny_pure ?_) | skip
  refine wpAny_bind (wpAny_sequenceKey ht.typeIs (by decide) ?_)
  refine wpAny_bind (wpAny_callSpecial?_slot (name := Str.ofString "__getitem__") ht.typeIs PyProof.Rows.slot_tuple_getitem (wpAny_call_entry PyProof.Rows.slot_tuple_getitem ht.typeIs entry_tuple_getitem ?_ (args_tuple_getitem _ _)))
  show wpAny _ _ (Builtin.Tuple.tupleItemsOf (.ref t) >>= _) _ _ s
  refine wpAny_bind (tupleItemsOf_ ht (wpAny_bind (wpAny_typeOf hT2 ?_)))
  rw [if_pos (by decide)]
  refine wpAny_bind (sa_rev (n := items.size) hs pl pu pk ?_)
  have hno : ¬ ((((items.size : Int) - 1) == 0 && (-1 : Int) == 1 && items.size == items.size) = true) := by
    intro z
    rw [Bool.and_eq_true, Bool.and_eq_true] at z
    exact absurd z.1.2 (by decide)
  show wpAny _ _ (if (((items.size : Int) - 1) == 0 && (-1 : Int) == 1 && items.size == items.size) = true then _ else _) _ _ s
  rw [if_neg hno, pick_rev]
  first
    | exact wpAny_bind (m := Builtin.Tuple.tupleExact _) (wpAny_newObj_type (wpAny_pure ⟨_, rfl, wpAny_pure h⟩) htk)
    | exact wpAny_bind (m := Builtin.Tuple.tupleExact _) (wpAny_newObj_type (wpAny_bind (wpAny_pure (wpAny_pure ⟨_, rfl, wpAny_pure h⟩))) htk)
    | exact wpAny_bind (wpAny_bind (m := Builtin.Tuple.tupleExact _) (wpAny_newObj_type (wpAny_pure (wpAny_pure ⟨_, rfl, wpAny_pure h⟩)) htk))
    | exact wpAny_bind (wpAny_bind (m := Builtin.Tuple.tupleExact _) (wpAny_newObj_type (wpAny_pure ⟨_, rfl, wpAny_pure h⟩) htk))
end
section
variable {X : Cx}
def tRevT (K : PySem.W.Frag) (te : TE) : TE := fun σ H Q => te σ H fun x H1 => ∃ a xs, x = .ref a ∧ SqT K H1 a xs ∧ ∀ p, H1 p = none → Q (.ref p) (upd H1 p (.tup xs.reverse))
theorem pe_revT {e : Expr} {te : TE} {k : Nat} {p1 p2 p3 pos : Pos} (he : PE X e te) : PE X (.Subscript e (.Slice none none (some (.UnaryOp .USub (.Constant (.int 1) k p1) p2)) p3) pos) (tRevT X.K te) := by
  refine ⟨fun pn s σ H Q I h => ?_⟩
  refine Subscript_ (thn (he.run pn s σ H _ I h) fun v s1 ⟨x, H1, I1, r1, q1⟩ => ?_)
  obtain ⟨a, xs, ex, hx, q⟩ := q1
  subst ex
  cases r1
  have hst : PO X (some (.UnaryOp .USub (.Constant (.int 1) k p1) p2)) (tPart (tUn (rU fun i => .int (-i)) (tC (.int 1)))) := po_some (pe_un un_neg pe_int)
  refine wpAny_Slice (thn (po_none.run pn s1 σ H1 (fun o H2 => o = none ∧ H2 = H1) I1 ⟨rfl, rfl⟩) fun vl s2 ⟨l, H2, I2, pl, el, e2⟩ => ?_)
  subst el e2
  refine thn (po_none.run pn s2 σ H2 (fun o H3 => o = none ∧ H3 = H2) I2 ⟨rfl, rfl⟩) fun vu s3 ⟨u, H3, I3, pu, eu, e3⟩ => ?_
  subst eu e3
  refine thn (hst.run pn s3 σ H3 (fun o H4 => o = some (-1) ∧ H4 = H3) I3 ⟨1, rfl, -1, rfl, rfl, rfl⟩) fun vs s4 ⟨o, H4, I4, ps, eo, e4⟩ => ?_
  subst eo e4
  have I5 : Inv X pn σ H4 { s4 with heap := s4.heap.push { cls := .type "slice", data := .fields #[vl, vu, vs] } } := I4.kept (t' := s4.toks) fun b ob q => Heap.get?_push_of_some _ q
  obtain ⟨its, r, ht, hz⟩ := I5.tuple hx
  have hlen := r.length
  show wpAny (model X.prog X.w) X.A (subscriptTail e (.Slice none none (some (.UnaryOp .USub (.Constant (.int 1) k p1) p2)) p3) (.ref a) (.ref s4.heap.objs.size)) (EP X pn σ Q) X.xe { s4 with heap := s4.heap.push { cls := .type "slice", data := .fields #[vl, vu, vs] } }
  refine tail_any (ops := [.ref a, .ref s4.heap.objs.size]) ht.typeIs (PyProof.Rows.slot_tuple_getitem.lookup) ?_ (by with_unfolding_all rfl)
  refine item_rev ht (Heap.IsSliceOf.new _ vl vu vs) pl pu ps ?_ (by rw [List.size_toArray]; omega)
  refine ⟨.ref _, _, I5.laid (t' := s4.toks) (o := .tup xs.reverse) (fun b ob q => Heap.get?_push_of_some _ q) (Nat.le_refl _) ?_, rfl, q _ (I5.hok.fresh (Nat.le_refl _))⟩
  exact ⟨by rw [List.length_reverse]; exact hz, _, r.reverse, IsTup.new _ _⟩
end
end Rt
namespace Rt
open PySem PySem.Spec PyProof.Rows L2
section
variable {prog : Program} {w : World} {A : Around} {E : Value → Shared → Prop} {s : Shared}
theorem collect_tup {t : Addr} {us : List Value} {Q : List Value → Shared → Prop} (ht : IsTup s.heap t us.toArray)
    (hq : Q us { s with heap := (s.heap.push (seqObj "list" #[] 0)).update s.heap.objs.size (Obj.mapSeq (· ++ us.toArray)) }) (hz : us.length ≤ sizeLine) :
    wpAny (model prog w) A (collect (.ref t)) Q E s := by
  obtain ⟨ob, hob, hcl, m, hdt⟩ := id ht
  unfold collect
  refine wpAny_bind (wpAny_runValue (codeAny_builtin entry_proto_collect' ?_))
  show wpAny _ _ (do again (.builtin "list.__iadd__" ⟨[← newList [], .ref t], []⟩)) _ _ s
  refine wpAny_bind (wpAny_newList (wpAny_pure ⟨Code.quiet_builtin _ (by decide +kernel), codeAny_builtin entry_list_iadd' ?_⟩))
  show wpAny _ _ (Builtin.List.listExtendWith (.ref s.heap.objs.size) (.ref t) (.ref s.heap.objs.size)) _ _ { s with heap := s.heap.push (seqObj "list" #[] 0) }
  unfold Builtin.List.listExtendWith
  have hob' : (s.heap.push (seqObj "list" #[] 0)).get? t = some ob := Heap.get?_push_of_some _ hob
  refine wpAny_bind (wpAny_typeOf (T := "tuple") ⟨ob, hob', hcl⟩ ?_)
  have htt : (Value.type "tuple" == Value.type "tuple") = true := by rfl
  rw [if_pos (by rw [htt]; simp)]
  refine wpAny_bind (listItems_at hob' hdt ?_)
  refine wpAny_bind (listItems_at (xs := #[]) (n := 0) (Heap.get?_push_size _ rfl) rfl ?_)
  rw [if_neg (by simp)]
  refine wpAny_bind (listUpdate_at (xs := #[]) (n := 0) (Heap.get?_push_size _ rfl) rfl ?_ (Nat.zero_le _) (by show (#[] ++ us.toArray).size ≤ sizeLine + 1; simp only [Array.size_append, List.size_toArray, List.length_nil]; omega))
  refine wpAny_pure ?_
  show wpAny (model prog w) A (do
      let ld ← load s.heap.objs.size
      match ld.data with
      | .seq xs _ => pure xs.toList
      | _ => unsupported "internal:collect") Q E { s with heap := (s.heap.push (seqObj "list" #[] 0)).update s.heap.objs.size (Obj.mapSeq (· ++ us.toArray)) }
  refine wpAny_bind (wpAny_load (get?_update_seq (Heap.get?_push_size _ rfl) _) ?_)
  show wpAny _ _ (pure ((#[] : Array Value) ++ us.toArray).toList) Q E _
  rw [show ((#[] : Array Value) ++ us.toArray).toList = us by simp]
  exact wpAny_pure hq
theorem sorted_tup {t : Addr} {us : List Value} {ns : List Int} {Q : Value → Shared → Prop} (ht : IsTup s.heap t us.toArray) (hI : IntsAre us ns) (h64 : us.length < 64)
    (hq : ∀ (out : Array Value) (ns' : List Int), IntsAre out.toList ns' → ns'.Perm ns → ns'.Pairwise (· ≤ ·) → Q (.ref (s.heap.objs.size + 1)) { s with heap := sortedAll s.heap us out }) :
    wpAny (model prog w) A (call (.builtin "sorted") [.ref t]) Q E s := by
  refine Calls.call_function_entry kind_sorted plain_sorted entry_sorted (args_sorted1 _) ?_
  unfold Builtin.«sorted»
  refine wpAny_bind (m := checkCount "sorted" 1 1 _) (wpAny_pure ?_)
  refine wpAny_bind (collect_tup ht ?_ (small64 h64))
  refine wpAny_bind (wpAny_newList ?_)
  have e1 : ((s.heap.push (seqObj "list" #[] 0)).update s.heap.objs.size (Obj.mapSeq (· ++ us.toArray))).objs.size = s.heap.objs.size + 1 := by
    rw [Heap.size_update, size_push']
  have hoL : (((s.heap.push (seqObj "list" #[] 0)).update s.heap.objs.size (Obj.mapSeq (· ++ us.toArray))).push (seqObj "list" us.toArray 0)).get? (s.heap.objs.size + 1) = some (seqObj "list" us.toArray 0) := by
    rw [← e1]; exact Heap.get?_push_size _ rfl
  show wpAny _ _ _ _ _ { s with heap := ((s.heap.push (seqObj "list" #[] 0)).update s.heap.objs.size (Obj.mapSeq (· ++ us.toArray))).push (seqObj "list" us.toArray 0) }
  rw [e1]
  refine wpAny_bind (wpAny_holding (wpAny_call_entry slot_list_sort ⟨_, hoL, rfl⟩ entry_list_sort (list_sort_tree hoL hI h64 fun out ns' a1 a2 a3 => ⟨_, rfl, ?_⟩) (args_list_sort _)))
  exact wpAny_pure ⟨_, rfl, hq out ns' a1 a2 a3⟩
end
section
variable {X : Cx}
def rSortedTp (K : PySem.W.Frag) : List V → Hp → VK → Prop := fun vs H Q => ∃ (a : Addr) (ns : List Int), vs = [V.ref a] ∧ SqT K H a (ns.map V.int) ∧ ns.length < 64 ∧
  ∀ (ns' : List Int) (p : Addr) (H' : Hp), ns'.Perm ns → ns'.Pairwise (· ≤ ·) → H p = none → H' = upd H p (.lst (ns'.map V.int)) → Q (.ref p) H'
theorem cr_sortedTp : CallR X (.builtin "sorted") (rSortedTp X.K) := by
  intro pn s σ H vs us Q I r h
  obtain ⟨a, ns, rfl, hs, h64, q⟩ := h
  obtain ⟨its, rv, hl, _⟩ := I.tuple hs
  rw [Vals.ref1 r]
  have hi := rv.ints
  refine sorted_tup hl hi (by rw [hi.length]; exact h64) fun out ns' h1 h2 h3 => ?_
  obtain ⟨ep, he'⟩ := PyProof.Rows.sortedAll_at s.heap its out
  have hln : (ns'.map V.int).length ≤ sizeLine := by rw [List.length_map, h2.length_eq]; exact small64 h64
  exact ⟨.ref _, upd H (s.heap.objs.size + 1) (.lst (ns'.map V.int)), I.laid (t' := s.toks) (fun _ _ => PyProof.Rows.sortedAll_old) (Nat.le_succ _) ⟨hln, out.toList, ep, vals_of_ints h1, he'⟩, rfl, q ns' _ _ h2 h3 (I.hok.fresh (Nat.le_succ _)) rfl⟩
end
end Rt
namespace Rt
theorem six {n : Int} (h1 : 1 ≤ n) (h6 : n ≤ 6) : n = 1 ∨ n = 2 ∨ n = 3 ∨ n = 4 ∨ n = 5 ∨ n = 6 := by omega
theorem first_place {n s pl : Int} (h1 : 1 ≤ n) (h6 : n ≤ 6) (p0 : 0 ≤ pl) (p1 : pl < n) : (s + (pl - s) % n) % n = pl ∧ s ≤ s + (pl - s) % n := by
  rcases six h1 h6 with rfl | rfl | rfl | rfl | rfl | rfl <;> omega
theorem first_least {n s pl m : Int} (h1 : 1 ≤ n) (h6 : n ≤ 6) (p0 : 0 ≤ pl) (p1 : pl < n) (hs : s ≤ m) (hm : m % n = pl) : s + (pl - s) % n ≤ m := by
  rcases six h1 h6 with rfl | rfl | rfl | rfl | rfl | rfl <;> omega
theorem round_on {n m c : Int} (h1 : 1 ≤ n) (h6 : n ≤ 6) : (m + n * c) % n = m % n := by
  rcases six h1 h6 with rfl | rfl | rfl | rfl | rfl | rfl <;> omega
theorem just_one {n m h j : Int} (h1 : 1 ≤ n) (h6 : n ≤ 6) (p0 : 0 ≤ h) (p1 : h < n) (j0 : 0 ≤ j) (j1 : j < n) : (m + j) % n = h ↔ j = (h - m) % n := by
  rcases six h1 h6 with rfl | rfl | rfl | rfl | rfl | rfl <;> omega
theorem cnt_eq (q : Nat → Bool) (k : Nat) : ∀ i, (∀ j, j < i → (q j = true ↔ j = k)) → (List.range i).countP q = if k < i then 1 else 0
  | 0, _ => by simp
  | i + 1, h => by
    rw [List.range_succ, List.countP_append, cnt_eq q k i fun j hj => h j (by omega), List.countP_singleton]
    have hi := h i (by omega)
    by_cases e : i = k
    · rw [if_pos (hi.mpr e), if_neg (by omega), if_pos (by omega)]
    · have hq : ¬ q i = true := fun z => e (hi.mp z)
      rw [if_neg hq]
      by_cases e2 : k < i
      · rw [if_pos e2, if_pos (by omega)]
      · rw [if_neg e2, if_neg (by omega)]
theorem one_in_round {n m h : Int} (h1 : 1 ≤ n) (h6 : n ≤ 6) (p0 : 0 ≤ h) (p1 : h < n) : (List.range n.toNat).countP (fun j : Nat => decide ((m + j) % n = h)) = 1 := by
  have hk0 : 0 ≤ (h - m) % n := Int.emod_nonneg _ (by omega)
  have hk1 : (h - m) % n < n := Int.emod_lt_of_pos _ (by omega)
  rw [cnt_eq _ ((h - m) % n).toNat n.toNat fun j hj => ?_, if_pos (by omega)]
  rw [decide_eq_true_eq, just_one h1 h6 p0 p1 (by omega) (by omega)]
  omega
theorem cnt_or (p q : Nat → Bool) : ∀ l : List Nat, (∀ x ∈ l, ¬ (p x = true ∧ q x = true)) → l.countP (fun x => p x || q x) = l.countP p + l.countP q
  | [], _ => rfl
  | a :: r, h => by
    rw [List.countP_cons, List.countP_cons, List.countP_cons, cnt_or p q r fun x hx => h x (List.mem_cons_of_mem _ hx)]
    have ha := h a List.mem_cons_self
    cases e1 : p a <;> cases e2 : q a
    · simp
    · simp; omega
    · simp; omega
    · exact absurd ⟨e1, e2⟩ ha
theorem all_in_round {n m : Int} (h1 : 1 ≤ n) (h6 : n ≤ 6) : ∀ hs : List Int, hs.Pairwise (· < ·) → (∀ h ∈ hs, 0 ≤ h ∧ h < n) → (List.range n.toNat).countP (fun j : Nat => decide ((m + j) % n ∈ hs)) = hs.length
  | [], _, _ => by simp
  | h :: r, hp, ha => by
    have hp' := List.pairwise_cons.mp hp
    have e : (fun j : Nat => decide ((m + j) % n ∈ h :: r)) = fun j : Nat => decide ((m + j) % n = h) || decide ((m + j) % n ∈ r) := by
      funext j
      simp [List.mem_cons]
    rw [e, cnt_or, one_in_round h1 h6 (ha h List.mem_cons_self).1 (ha h List.mem_cons_self).2, all_in_round h1 h6 r hp'.2 fun x hx => ha x (List.mem_cons_of_mem _ hx), List.length_cons]
    · omega
    · intro x _ z
      have z1 := of_decide_eq_true z.1
      have z2 := of_decide_eq_true z.2
      rw [z1] at z2
      have := hp'.1 h z2
      omega
end Rt
namespace Rt
open PySem PySem.Spec PyProof.Rows L2
def topS (i : Nat) : Stmt := PySem.Challenge.pw_rightage_k02_what_brings_and_opens.main.body.getD i (.Pass ⟨0, 0, 0, 0⟩)
abbrev s_place_of : Stmt := topS 1
theorem sc_place_of : FnScope ["world", "number"] ["world", "number"] (defScope s_place_of) := ⟨rfl, rfl, rfl, by decide +kernel, rfl, by decide +kernel, by decide +kernel⟩
abbrev s_brings : Stmt := topS 2
theorem sc_brings : FnScope ["world", "source", "moment", "kind", "age", "place", "since", "many"] ["world", "source", "moment"] (defScope s_brings) := ⟨rfl, rfl, rfl, by decide +kernel, rfl, by decide +kernel, by decide +kernel⟩
abbrev s_opens : Stmt := topS 3
theorem sc_opens : FnScope ["world", "way", "moment", "kind", "parts", "keeps", "hours", "wait"] ["world", "way", "moment"] (defScope s_opens) := ⟨rfl, rfl, rfl, by decide +kernel, rfl, by decide +kernel, by decide +kernel⟩
abbrev s_first_of : Stmt := topS 4
theorem sc_first_of : FnScope ["world", "source", "kind", "age", "place", "since", "many"] ["world", "source"] (defScope s_first_of) := ⟨rfl, rfl, rfl, by decide +kernel, rfl, by decide +kernel, by decide +kernel⟩
abbrev s_bears : Stmt := topS 5
theorem sc_bears : FnScope ["world", "way", "moment", "origins", "kind", "parts", "keeps", "hours", "wait", "origin"] ["world", "way", "moment", "origins"] (defScope s_bears) := ⟨rfl, rfl, rfl, by decide +kernel, rfl, by decide +kernel, by decide +kernel⟩
abbrev s_law_draws : Stmt := topS 7
theorem sc_law_draws : FnScope ["_law_script", "_law_cells", "_law_cell"] ["_law_script"] (defScope s_law_draws) := ⟨rfl, rfl, rfl, by decide +kernel, rfl, by decide +kernel, by decide +kernel⟩
abbrev s_law_next : Stmt := topS 8
theorem sc_law_next : FnScope ["_law_drawn", "_law_below", "_law_cells", "_law_turn", "_law_rests", "_law_spot", "_law_digit", "_law_mixed", "_law_again"] ["_law_drawn", "_law_below"] (defScope s_law_next) := ⟨rfl, rfl, rfl, by decide +kernel, rfl, by decide +kernel, by decide +kernel⟩
abbrev s_law_one : Stmt := topS 9
theorem sc_law_one : FnScope ["_law_drawn", "_law_wares"] ["_law_drawn", "_law_wares"] (defScope s_law_one) := ⟨rfl, rfl, rfl, by decide +kernel, rfl, by decide +kernel, by decide +kernel⟩
abbrev s_law_alike : Stmt := topS 10
theorem sc_law_alike : FnScope ["_law_one_here", "_law_other", "_law_a", "_law_b"] ["_law_one_here", "_law_other"] (defScope s_law_alike) := ⟨rfl, rfl, rfl, by decide +kernel, rfl, by decide +kernel, by decide +kernel⟩
abbrev s_law_kinds : Stmt := topS 11
theorem sc_law_kinds : FnScope ["_law_drawn", "_law_many", "_law_stem", "_law_first", "_law_way_here", "_law_found", "_law_k"] ["_law_drawn", "_law_many"] (defScope s_law_kinds) := ⟨rfl, rfl, rfl, by decide +kernel, rfl, by decide +kernel, by decide +kernel⟩
abbrev s_law_source : Stmt := topS 12
theorem sc_law_source : FnScope ["_law_drawn", "_law_size", "_law_kinds_here", "_law_old", "_law_since", "_law_age", "_law_kind", "_law_place"] ["_law_drawn", "_law_size", "_law_kinds_here", "_law_old"] (defScope s_law_source) := ⟨rfl, rfl, rfl, by decide +kernel, rfl, by decide +kernel, by decide +kernel⟩
abbrev s_law_part : Stmt := topS 13
theorem sc_law_part : FnScope ["_law_drawn", "_law_kinds_here", "_law_old", "_law_least", "_law_greatest"] ["_law_drawn", "_law_kinds_here", "_law_old"] (defScope s_law_part) := ⟨rfl, rfl, rfl, by decide +kernel, rfl, by decide +kernel, by decide +kernel⟩
abbrev s_law_way : Stmt := topS 14
theorem sc_law_way : FnScope ["_law_drawn", "_law_size", "_law_kinds_here", "_law_old", "_law_parts", "_law_hours", "_law_keeps", "_law_k", "_law_place"] ["_law_drawn", "_law_size", "_law_kinds_here", "_law_old"] (defScope s_law_way) := ⟨rfl, rfl, rfl, by decide +kernel, rfl, by decide +kernel, by decide +kernel⟩
abbrev s_law_world : Stmt := topS 15
theorem sc_law_world : FnScope ["_law_drawn", "_law_wide", "_law_old", "_law_size", "_law_kinds_here", "_law_many", "_law_sources", "_law_ways", "_law_k"] ["_law_drawn", "_law_wide", "_law_old"] (defScope s_law_world) := ⟨rfl, rfl, rfl, by decide +kernel, rfl, by decide +kernel, by decide +kernel⟩
abbrev s_law_is : Stmt := topS 16
theorem sc_law_is : FnScope ["_law_thing", "_law_low", "_law_high"] ["_law_thing", "_law_low", "_law_high"] (defScope s_law_is) := ⟨rfl, rfl, rfl, by decide +kernel, rfl, by decide +kernel, by decide +kernel⟩
abbrev s_law_source_right : Stmt := topS 17
theorem sc_law_source_right : FnScope ["_law_drawn", "_law_world_here", "_law_number", "_law_kind", "_law_age", "_law_place", "_law_since", "_law_many", "_law_first", "_law_moments", "_law_moment", "_law_due", "_law_k"] ["_law_drawn", "_law_world_here", "_law_number"] (defScope s_law_source_right) := ⟨rfl, rfl, rfl, by decide +kernel, rfl, by decide +kernel, by decide +kernel⟩
abbrev s_law_way_right : Stmt := topS 18
theorem sc_law_way_right : FnScope ["_law_drawn", "_law_world_here", "_law_number", "_law_kind", "_law_parts", "_law_keeps", "_law_hours", "_law_wait", "_law_near", "_law_moment", "_law_far", "_law_origins", "_law_due", "_law_part_here"] ["_law_drawn", "_law_world_here", "_law_number"] (defScope s_law_way_right) := ⟨rfl, rfl, rfl, by decide +kernel, rfl, by decide +kernel, by decide +kernel⟩
abbrev s_law : Stmt := topS 19
theorem sc_law : FnScope ["_law_script", "_law_drawn", "_law_turn", "_law_world_here", "_law_k"] ["_law_script"] (defScope s_law) := ⟨rfl, rfl, rfl, by decide +kernel, rfl, by decide +kernel, by decide +kernel⟩
section
variable {P : Program} {w : World} {K : PySem.W.Frag} {mg : Str → Option Value} {base : Heap}

/-! ### _law_next -/
def spNext : Sp := fun vs H Q _ => ∃ (g : Gd) (B : Nat) (b : Int), vs = [.ref g.d, .int b] ∧ Fu g B H ∧ 1 ≤ B ∧ 0 < b ∧ b < 2 ^ 60 ∧
  ∀ v H', 0 ≤ v → v < b → Fu g (B - 1) H' → Kp g H H' → Q (.int v) H'
theorem ok_next {f : Addr} {fd : FuncData} {k : Nat} (F : Fun K "_law_next" "_law_next" s_law_next f fd) (m_len : mg "len" = none) : FnOk P w K mg base CX0 (k + 1) f fd ["_law_drawn", "_law_below"] spNext := by
  refine F.ok sc_law_next (fun vs H Q E h => ?_) (fun cdv A outer s H vs Q E hr h => ?_)
  · obtain ⟨g, B, b, rfl, _⟩ := h
    rfl
  · obtain ⟨g, B, b, rfl, ⟨t, D, hB⟩, hB1, hb0, hb, q⟩ := h
    obtain ⟨cs, hc, ec⟩ := D.hc
    obtain ⟨rs, hrr, er⟩ := D.hr
    have n0 := D.n0
    have n63 := D.n63
    have t0 := D.t0
    refine ⟨_, (pss_cons (ps_asg (pv 0) (pg_unl rfl (pgs_cons (pg_name (i := 2) sc_law_next.nd rfl (.inl rfl)) (pgs_cons (pg_name (i := 3) sc_law_next.nd rfl (.inl rfl)) (pgs_cons (pg_name (i := 4) sc_law_next.nd rfl (.inl rfl)) pgs_nil)))))
  (pss_cons (ps_set (i := 5) sc_law_next.nd rfl (.inl rfl) (pe_op op_modL (pv 3) (pe_callB call_len (by rfl) m_len (by decide +kernel) (pa_cons (pv 2) pa_nil))))
  (pss_cons (ps_asg (pe_op op_addL (pv 3) pe_int) (pg_sub (pv 0) pe_int set_listL))
  (pss_cons (ps_if (pt_cmpR op_gt (pe_ix ix_list (pv 4) (pv 5) (fun _ _ => rfl)) pe_int (nomark _))
    (pss_cons (ps_set (i := 6) sc_law_next.nd rfl (.inl rfl) (pe_op op_modL (pe_ix ix_list (pv 4) (pv 5) (fun _ _ => rfl)) (pv 1)))
  (pss_cons (ps_asg (pe_op op_divL (pe_ix ix_list (pv 4) (pv 5) (fun _ _ => rfl)) (pv 1)) (pg_sub (pv 4) (pv 5) set_listL))
  (pss_one (ps_ret (pv 6)))))
    pss_nil)
  (pss_cons (ps_set (i := 7) sc_law_next.nd rfl (.inl rfl) (pe_op op_modL (pe_op op_powL (pe_op op_addL (pe_op op_addL (pe_op op_modL (pe_ix ix_list (pv 2) (pv 5) (fun _ _ => rfl)) pe_int) (pe_op op_mulL pe_int (pv 3))) pe_int) pe_int) pe_int))
  (pss_cons (ps_set (i := 8) sc_law_next.nd rfl (.inl rfl) (pe_op op_modL (pe_op op_powL (pe_op op_addL (pe_op op_addL (pv 7) (pe_op op_mulL (pe_op op_mulL pe_int (pv 3)) (pv 3))) pe_int) pe_int) pe_int))
  (pss_one (ps_ret (pe_op op_modL (pe_op op_modL (pe_op op_addL (pe_op op_mulL (pv 8) pe_int) (pv 7)) pe_int) (pv 1)))))))))), ?_⟩
    -- cells, turn, rests = drawn
    refine ⟨.ref g.d, rfl, g.d, _, rfl, SqL.of D.hd, rfl, .ref g.c, _, rfl, .int t, _, rfl, .ref g.r, _, rfl, rfl, ?_⟩
    -- spot = turn % len(cells)
    refine ⟨.int t, rfl, .ref g.c, rfl, .ref g.c, g.n, rfl, .inl ⟨_, SqL.of hc, by rw [List.length_map, ec]⟩, t, (g.n : Int), rfl, rfl, by omega, fun sp esp hs0 hs1 => ?_⟩
    -- drawn[1] = turn + 1
    refine ⟨.int t, rfl, t, 1, rfl, rfl, fun t1 et1 => ⟨.ref g.d, rfl, g.d, _, 1, 1, rfl, rfl, D.hd, rfl, fun H1 eH1 => ?_⟩⟩
    have eH1 : H1 = upd H g.d (.lst [.ref g.c, .int t1, .ref g.r]) := eH1
    have D1 : Dr g t1 H1 := by
      subst eH1
      exact ⟨upd_same, ⟨cs, by rw [upd_ne D.dc.symm]; exact hc, ec⟩, ⟨rs, by rw [upd_ne D.dr.symm]; exact hrr, er⟩, D.dc, D.dr, D.cr, D.n0, D.n63, by omega⟩
    have K1 : Kp g H H1 := fun p o h1 h2 e => by
      subst eH1
      rw [upd_ne h1]
      exact e
    have hc1 : H1 g.c = some (.lst (cs.map V.int)) := by subst eH1; rw [upd_ne D.dc.symm]; exact hc
    have hr1 : H1 g.r = some (.lst (rs.map V.int)) := by subst eH1; rw [upd_ne D.dr.symm]; exact hrr
    -- if rests[spot] > 0
    obtain ⟨rv, hrv, rmem, _⟩ := atI_in (xs := rs.map V.int) (i := sp) hs0 (by rw [List.length_map, er]; exact hs1)
    obtain ⟨x, xm, rfl⟩ := List.mem_map.mp rmem
    obtain ⟨cv, hcv, cmem, _⟩ := atI_in (xs := cs.map V.int) (i := sp) hs0 (by rw [List.length_map, ec]; exact hs1)
    obtain ⟨y, ym, rfl⟩ := List.mem_map.mp cmem
    refine ⟨.ref g.r, rfl, .int sp, rfl, g.r, _, sp, _, rfl, rfl, SqL.of hr1, hrv, x, 0, rfl, rfl, _, rfl, ite2 (fun e => ?_) (fun e => ?_)⟩
    · -- a digit of a great cell
      refine ⟨.ref g.r, rfl, .int sp, rfl, g.r, _, sp, _, rfl, rfl, SqL.of hr1, hrv, .int b, rfl, x, b, rfl, rfl, hb0, fun dg edg hd0 hd1 => ?_⟩
      refine ⟨.ref g.r, rfl, .int sp, rfl, g.r, _, sp, _, rfl, rfl, SqL.of hr1, hrv, .int b, rfl, x, b, rfl, rfl, wide_div (b := 60) hb0 (by omega) (by decide) (by decide), fun z ez => ?_⟩
      refine ⟨.ref g.r, rfl, .int sp, rfl, g.r, _, sp, sp.toNat, rfl, rfl, hr1, ixN_in hs0 (by rw [List.length_map, er]; exact hs1), fun H2 eH2 => ?_⟩
      refine ⟨.int dg, rfl, ?_⟩
      have em : (rs.map V.int).set sp.toNat (.int z) = (rs.set sp.toNat z).map V.int := by rw [List.map_set]
      rw [em] at eH2
      subst eH2
      refine q _ _ hd0 hd1 ⟨t1, ⟨?_, ⟨cs, ?_, ec⟩, ⟨_, upd_same, by rw [List.length_set, er]⟩, D.dc, D.dr, D.cr, D.n0, D.n63, by omega⟩, by omega⟩ (fun p o h1 h2 e => ?_)
      · rw [upd_ne D.dr]; exact D1.hd
      · rw [upd_ne D.cr]; exact hc1
      · rw [upd_ne h2]; exact K1 p o h1 h2 e
    · -- a mixed one
      have ht : t ≤ 1000000 := by omega
      have htt0 : 0 ≤ 4409 * t * t := Int.mul_nonneg (by omega) t0
      have htt1 : 4409 * t * t ≤ 4409 * 1000000 * 1000000 := Int.mul_le_mul (by omega) ht t0 (by decide)
      refine ⟨.ref g.c, rfl, .int sp, rfl, g.c, _, sp, _, rfl, rfl, SqL.of hc1, hcv, y, 2147483629, rfl, rfl, by decide, fun y1 ey1 hy0 hy1 => ?_⟩
      refine ⟨.int t, rfl, 30011, t, rfl, rfl, .inl ⟨by decide, by decide⟩, fun y2 ey2 => ⟨y1, y2, rfl, rfl, fun y3 ey3 => ⟨y3, 5171, rfl, rfl, fun y4 ey4 => ⟨y4, 3, rfl, rfl, by decide, by decide, by omega, fun y5 ey5 => ⟨y5, 2147483587, rfl, rfl, by decide, fun m em hm0 hm1 => ?_⟩⟩⟩⟩⟩
      refine ⟨.int m, rfl, .int t, rfl, 4409, t, rfl, rfl, .inl ⟨by decide, by decide⟩, fun u1 eu1 => ⟨.int t, rfl, u1, t, rfl, rfl, .inl ⟨by omega, by omega⟩, fun u2 eu2 => ⟨m, u2, rfl, rfl, fun u3 eu3 => ⟨u3, 13, rfl, rfl, fun u4 eu4 => ⟨u4, 3, rfl, rfl, by decide, by decide, ?_, fun u5 eu5 => ⟨u5, 2147483563, rfl, rfl, by decide, fun a ea ha0 ha1 => ?_⟩⟩⟩⟩⟩⟩
      · subst eu1
        omega
      · refine ⟨.int a, rfl, a, 2147483423, rfl, rfl, .inl ⟨by omega, by omega⟩, fun v1 ev1 => ⟨.int m, rfl, v1, m, rfl, rfl, fun v2 ev2 => ⟨v2, 4611686018427387847, rfl, rfl, by decide, fun v3 ev3 hv0 hv1 => ⟨.int b, rfl, v3, b, rfl, rfl, hb0, fun v4 ev4 hv2 hv3 => ?_⟩⟩⟩⟩
        exact q _ _ hv2 hv3 ⟨t1, D1, by omega⟩ K1
end
end Rt
namespace Rt
open PySem PySem.Spec PyProof.Rows L2
theorem sm_new {H : Hp} {p : Addr} {o : HO} (h : H p = none) : Same H (upd H p o) := fun b x e => by
  rw [upd_ne (ne_of_none e h)]
  exact e
theorem sm_mut {H H' : Hp} {p : Addr} {o : HO} (e : Same H H') (h : H p = none) : Same H (upd H' p o) := fun b x z => by
  rw [upd_ne (ne_of_none z h)]
  exact e b x z
theorem cut63 (ns : List Int) : cutV (ns.map V.int) none (some 63) = (ns.take 63).map V.int := by
  unfold cutV
  rw [show HT.sIx (ns.map V.int).length (ns.map V.int).length (some 63) = min 63 (ns.map V.int).length from HT.sIx_nat _ _ 63, HT.sIx_none, List.drop_zero, List.map_take, Nat.sub_zero]
  rw [← List.take_take]
  rw [List.take_length]
theorem ne_of_some {H : Hp} {p q : Addr} {o : HO} (h : H p = some o) (n : H q = none) : q ≠ p := fun e => by
  rw [e, h] at n
  cases n
section
variable {P : Program} {w : World} {K : PySem.W.Frag} {mg : Str → Option Value} {base : Heap}

def spDraws (K : PySem.W.Frag) : Sp := fun vs H Q _ => ∃ (a : Addr) (ns : List Int), vs = [.ref a] ∧ SqL K H a (ns.map V.int) ∧ ns.length ≤ 63 ∧
  ∀ g H', Same H H' → Fu g 1000000 H' → Q (.ref g.d) H'
theorem ok_draws {f : Addr} {fd : FuncData} {k : Nat} (F : Fun K "_law_draws" "_law_draws" s_law_draws f fd) (m_len : mg "len" = none) (m_list : mg "list" = none) (m_int : mg "int" = none) : FnOk P w K mg base CX0 (k + 1) f fd ["_law_script"] (spDraws K) := by
  refine F.ok sc_law_draws (fun vs H Q E h => ?_) (fun cdv A outer s H vs Q E hr h => ?_)
  · obtain ⟨a, ns, rfl, _⟩ := h
    rfl
  · obtain ⟨a, ns, rfl, hS, hn, q⟩ := h
    refine ⟨_, (pss_cons (ps_set (i := 1) sc_law_draws.nd rfl (.inl rfl) (pe_op op_cat (pe_callTy call_list_of (by rfl) m_list (by decide +kernel) (pa_cons (pe_slice sl_list (pv 0) po_none (po_some pe_int)) pa_nil)) (pe_op op_rep (pe_lstL (pa_cons pe_int pa_nil)) (pe_callTy call_int1 (by rfl) m_int (by decide +kernel) (pa_cons (pe_cmpR op_eq (pe_callB call_len (by rfl) m_len (by decide +kernel) (pa_cons (pv 0) pa_nil)) pe_int (nomark _)) pa_nil)))))
  (pss_one (ps_ret (pe_lstL (pa_cons (pv 1) (pa_cons pe_int (pa_cons (pe_lc (own := [("_law_cell", 2)]) (g := (gName 2)) (tt := tYes) rfl sc_law_draws.nd (pi_list (pv 1)) (blkOk_by (own := [("_law_cell", 2)]) (N := ["_law_script", "_law_cells", "_law_cell"]) (sc := defScope s_law_draws) (by decide +kernel)) (fun _ _ _ _ _ => (pg_name (i := 2) sc_law_draws.nd rfl (.inl rfl))) (fun _ _ _ _ _ => pts_nil) (fun _ _ _ _ _ => (pe_op op_mulL (pv 2) (pe_callTy call_int1 (by rfl) m_int (by decide +kernel) (pa_cons (pe_cmpR op_ge (pv 2) (pe_op op_powL pe_int pe_int) (nomark _)) pa_nil))))) pa_nil))))))), ?_⟩
    -- list(script[:63])
    refine ⟨.ref a, rfl, 63, rfl, a, ns.map V.int, rfl, hS, fun c0 n0 => ⟨c0, _, rfl, .inl (SqL.of upd_same), fun l nl => ?_⟩⟩
    rw [cut63]
    have s1 : Same H (upd (upd H c0 (.lst ((ns.take 63).map V.int))) l (.lst ((ns.take 63).map V.int))) := sm_mut (sm_new n0) (by
      cases e : H l with
      | none => rfl
      | some o => rw [sm_new n0 _ _ e] at nl; cases nl)
    generalize eH1 : upd (upd H c0 (.lst ((ns.take 63).map V.int))) l (.lst ((ns.take 63).map V.int)) = H1 at s1 ⊢
    have hl1 : H1 l = some (.lst ((ns.take 63).map V.int)) := by rw [← eH1]; exact upd_same
    -- [0] * int(len(script) == 0)
    refine ⟨by decide, fun p2 H2 np2 eH2 => ⟨.ref a, rfl, .ref a, ns.length, rfl, .inl ⟨_, (s1.trans (by rw [eH2]; exact sm_new np2)).seq hS, by rw [List.length_map]⟩, rfl, .inr ⟨_, rfl, ?_⟩⟩⟩
    have s2 : Same H1 H2 := by rw [eH2]; exact sm_new np2
    have hp2 : H2 p2 = some (.lst [.int 0]) := by rw [eH2]; exact upd_same
    have hl2 := s2 _ _ hl1
    obtain ⟨j, ej, hj⟩ : ∃ j : Nat, (if decide (V.int (ns.length : Int) = V.int 0) = true then (1 : Int) else 0) = (j : Int) ∧ (j = 1 ∧ ns.length = 0 ∨ j = 0 ∧ 0 < ns.length) := by
      by_cases e0 : ns.length = 0
      · exact ⟨1, by rw [e0]; rfl, .inl ⟨rfl, e0⟩⟩
      · refine ⟨0, ?_, .inr ⟨rfl, by omega⟩⟩
        rw [if_neg]
        · rfl
        · intro z
          have z2 := V.int.inj (of_decide_eq_true z)
          omega
    refine ⟨p2, (j : Int), [.int 0], rfl, by rw [← ej], hp2, by omega, by omega, by show 1 * (j : Int).toNat ≤ _; exact sz (by omega), fun p3 np3 => ?_⟩
    have el : (List.replicate ((j : Int).toNat) [V.int 0]).flatten = (List.replicate j (0 : Int)).map V.int := by
      rw [Int.toNat_natCast]
      rcases hj with ⟨rfl, _⟩ | ⟨rfl, _⟩ <;> rfl
    rw [el]
    have hl3 : upd H2 p3 (.lst ((List.replicate j (0 : Int)).map V.int)) l = some (.lst ((ns.take 63).map V.int)) := sm_new np3 _ _ hl2
    refine ⟨l, p3, _, _, rfl, rfl, hl3, upd_same, ?_, fun c nc => ?_⟩
    · rw [List.length_map, List.length_map, List.length_take, List.length_replicate]
      exact sz (by omega)
    rw [← List.map_append]
    generalize ecs : ns.take 63 ++ List.replicate j (0 : Int) = cs
    have lcs : 0 < cs.length ∧ cs.length ≤ 63 := by
      rw [← ecs, List.length_append, List.length_take, List.length_replicate]
      omega
    have s3 : Same H2 (upd (upd H2 p3 (.lst ((List.replicate j (0 : Int)).map V.int))) c (.lst (cs.map V.int))) := (sm_new np3).trans (sm_new nc)
    generalize eH3 : upd (upd H2 p3 (.lst ((List.replicate j (0 : Int)).map V.int))) c (.lst (cs.map V.int)) = H3 at s3 ⊢
    have hc3 : H3 c = some (.lst (cs.map V.int)) := by rw [← eH3]; exact upd_same
    have sH3 : Same H H3 := (s1.trans s2).trans s3
    -- the rests
    refine ⟨.ref c, rfl, .ref c, rfl, c, rfl, ⟨_, SqL.of hc3⟩, fun D nD => ?_⟩
    have oc : D ≠ c := ne_of_some hc3 nD
    refine lc_list (K := K) (a := c) (xs := cs.map V.int) (fun i H' => Same H3 H' ∧ ∃ rs : List Int, H' D = some (.lst (rs.map V.int)) ∧ rs.length = i) ⟨sm_new nD, [], upd_same, rfl⟩ (fun i H' _ h => SqL.of (h.1 _ _ hc3)) (fun i x H' hx h => ?_) (fun H4 h => ?_)
    · obtain ⟨sm, rs, eD, er⟩ := h
      have hi : i < (cs.map V.int).length := (List.getElem?_eq_some_iff.mp hx).1
      rw [List.length_map] at hi
      obtain ⟨z, rfl⟩ : ∃ z, x = V.int z := by
        rw [List.getElem?_map, List.getElem?_eq_getElem hi] at hx
        exact ⟨_, (Option.some.inj hx).symm⟩
      refine ⟨rfl, .int z, rfl, .int z, rfl, 10, 18, rfl, rfl, by decide, by decide, by decide, fun y ey => ⟨z, y, rfl, rfl, .inr ⟨_, rfl, ?_⟩⟩⟩
      refine ⟨z, _, rfl, rfl, .inr ?_, fun v ev => ⟨_, eD, ?_, sm_mut sm nD, rs ++ [v], ?_, ?_⟩⟩
      · split <;> decide
      · rw [List.length_map, er]
        exact szl (by omega)
      · rw [upd_same, List.map_append]
        rfl
      · rw [List.length_append, er]
        rfl
    · obtain ⟨sm, rs, eD, er⟩ := h
      rw [List.length_map] at er
      refine ⟨sz (n := 3) (by decide), fun d H5 nd eH5 => ?_⟩
      have hc4 := sm _ _ hc3
      subst eH5
      refine q ⟨d, c, D, cs.length⟩ _ (sH3.trans (sm.trans (sm_new nd))) ⟨0, ⟨upd_same, ⟨cs, sm_new nd _ _ hc4, rfl⟩, ⟨rs, sm_new nd _ _ eD, er⟩, ne_of_some hc4 nd, ne_of_some eD nd, oc.symm, lcs.1, lcs.2, by decide⟩, by decide⟩
/-! ### _law_one -/
def spOne (K : PySem.W.Frag) : Sp := fun vs H Q _ => ∃ (g : Gd) (B : Nat) (x : V), vs = [.ref g.d, x] ∧ Fu g B H ∧ 1 ≤ B ∧
  ((∃ p xs, x = .ref p ∧ g.Off p ∧ H p = some (.lst xs) ∧ 0 < xs.length ∧ xs.length ≤ 1000 ∧ ∀ v H', v ∈ xs → Fu g (B - 1) H' → Kp g H H' → Q v H') ∨
   (∃ p xs, x = .ref p ∧ H p = some (.tup xs) ∧ 0 < xs.length ∧ xs.length ≤ 1000 ∧ ∀ v H', v ∈ xs → Fu g (B - 1) H' → Kp g H H' → Q v H') ∨
   (∃ z : Str, x = .str z ∧ 0 < z.length ∧ z.length ≤ 1000 ∧ ∀ (c : Nat) H', c ∈ z.cps.toList → Fu g (B - 1) H' → Kp g H H' → Q (.str ⟨#[c]⟩) H'))
theorem ok_one {f : Addr} {fd : FuncData} (F : Fun K "_law_one" "_law_one" s_law_one f fd) (m_len : mg "len" = none) (C__law_next : Cl P w K mg base 1 "_law_next" ["_law_drawn", "_law_below"] spNext) : FnOk P w K mg base CX0 2 f fd ["_law_drawn", "_law_wares"] (spOne K) := by
  refine F.ok sc_law_one (fun vs H Q E h => ?_) (fun cdv A outer s H vs Q E hr h => ?_)
  · obtain ⟨g, B, x, rfl, _⟩ := h
    rfl
  · obtain ⟨g, B, x, rfl, hF, hB, h⟩ := h
    refine ⟨_, (pss_one (ps_ret (pe_ix ix_seq (pv 1) (pe_cl C__law_next (hr.mono (by omega)) (by rfl) (pa_cons (pv 0) (pa_cons (pe_callB call_len (by rfl) m_len (by decide +kernel) (pa_cons (pv 1) pa_nil)) pa_nil))) (fun _ _ => rfl)))), ?_⟩
    rcases h with ⟨p, xs, rfl, oP, hp, h0, h1, q⟩ | ⟨p, xs, rfl, hp, h0, h1, q⟩ | ⟨z, rfl, h0, h1, q⟩
    · refine ⟨.ref p, rfl, .ref g.d, rfl, .ref p, rfl, .ref p, xs.length, rfl, .inl ⟨_, SqL.of hp, rfl⟩, g, B, (xs.length : Int), rfl, hF, hB, by omega, by omega, fun i H' i0 i1 F' K' => .inl ?_⟩
      obtain ⟨v, hv, vm, _⟩ := atI_in (xs := xs) i0 i1
      exact ⟨p, xs, i, v, rfl, rfl, SqL.of (K'.off oP hp), hv, q v H' vm F' K'⟩
    · refine ⟨.ref p, rfl, .ref g.d, rfl, .ref p, rfl, .ref p, xs.length, rfl, .inr ⟨_, SqT.of hp, rfl⟩, g, B, (xs.length : Int), rfl, hF, hB, by omega, by omega, fun i H' i0 i1 F' K' => .inr (.inl ?_)⟩
      obtain ⟨v, hv, vm, _⟩ := atI_in (xs := xs) i0 i1
      exact ⟨p, xs, i, v, rfl, rfl, SqT.of (hF.tk K' p xs hp), hv, q v H' vm F' K'⟩
    · refine ⟨.str z, rfl, .ref g.d, rfl, .str z, rfl, .str z, z.length, rfl, ⟨sz (by omega), rfl⟩, g, B, (z.length : Int), rfl, hF, hB, by omega, by omega, fun i H' i0 i1 F' K' => .inr (.inr ?_)⟩
      have ez : z.cps.toList.length = z.length := by simp [Str.length]
      obtain ⟨c, hc, cm, _⟩ := atI_in (xs := z.cps.toList) i0 (by rw [ez]; exact i1)
      exact ⟨z, i, c, rfl, rfl, sz (by omega), hc, q c H' cm F' K'⟩
end
end Rt
namespace Rt
open PySem PySem.Spec PyProof.Rows L2
theorem all_map {α β : Type} {f : α → β} {Pc : α → Prop} : ∀ {l : List β}, (∀ x ∈ l, ∃ c, x = f c ∧ Pc c) → ∃ cs : List α, l = cs.map f ∧ ∀ c ∈ cs, Pc c
  | [], _ => ⟨[], rfl, fun c h => nomatch h⟩
  | b :: r, h => by
    obtain ⟨c, rfl, pc⟩ := h b List.mem_cons_self
    obtain ⟨cs, rfl, al⟩ := all_map (l := r) fun x hx => h x (List.mem_cons_of_mem _ hx)
    exact ⟨c :: cs, rfl, fun d hd => by
      rcases List.mem_cons.mp hd with e | e
      · rw [e]; exact pc
      · exact al d e⟩
theorem join0 : ∀ cs : List Nat, Txt.join ⟨#[]⟩ (cs.map fun c => (⟨#[c]⟩ : Str)) = ⟨cs.toArray⟩ := by
  intro cs
  rw [TL.join_eq]
  induction cs with
  | nil => rfl
  | cons c r ih =>
    cases r with
    | nil => rfl
    | cons d r =>
      show (⟨#[c]⟩ : Str) ++ ⟨#[]⟩ ++ Str.join ⟨#[]⟩ ((d :: r).map fun c => (⟨#[c]⟩ : Str)) = _
      rw [ih]
      show (⟨(#[c] ++ #[]) ++ (d :: r).toArray⟩ : Str) = ⟨(c :: d :: r).toArray⟩
      simp
theorem str_len_app (x y : Str) : (x ++ y).length = x.length + y.length := by
  show (x.cps ++ y.cps).size = _
  rw [Array.size_append]
  rfl
section
variable {P : Program} {w : World} {K : PySem.W.Frag} {mg : Str → Option Value} {base : Heap}
def spKinds : Sp := fun vs H Q _ => ∃ (g : Gd) (B : Nat) (m : Int), vs = [.ref g.d, .int m] ∧ Fu g B H ∧ 10 ≤ B ∧ 1 ≤ m ∧ m ≤ 4 ∧
  ∀ p (ks : List Str) H', ks.length = m.toNat → H' p = some (.tup (ks.map V.str)) → Fu g (B - 10) H' → Kp g H H' → Q (.ref p) H'
theorem ok_kinds {f : Addr} {fd : FuncData} (F : Fun K "_law_kinds" "_law_kinds" s_law_kinds f fd) (m_range : mg "range" = none) (m_sorted : mg "sorted" = none) (m_tuple : mg "tuple" = none)
    (C__law_next : Cl P w K mg base 1 "_law_next" ["_law_drawn", "_law_below"] spNext) (C__law_one : Cl P w K mg base 2 "_law_one" ["_law_drawn", "_law_wares"] (spOne K)) :
    FnOk P w K mg base CX0 3 f fd ["_law_drawn", "_law_many"] spKinds := by
  refine F.ok sc_law_kinds (fun vs H Q E h => ?_) (fun cdv A outer s H vs Q E hr h => ?_)
  · obtain ⟨g, B, m, rfl, _⟩ := h
    rfl
  · obtain ⟨g, B, m, rfl, hF, hB, hm1, hm4, q⟩ := h
    refine ⟨_, (pss_cons (ps_set (i := 2) sc_law_kinds.nd rfl (.inr rfl) (pe_join pe_str (pe_lc (own := [("_law_k", 6)]) (g := (gName 6)) (tt := tYes) rfl sc_law_kinds.nd (pi_range1 (by rfl) m_range (pa_cons (pe_cl C__law_next (hr.mono (by omega)) (by rfl) (pa_cons (pv 0) (pa_cons pe_int pa_nil))) pa_nil)) (blkOk_by (own := [("_law_k", 6)]) (N := ["_law_drawn", "_law_many", "_law_stem", "_law_first", "_law_way_here", "_law_found", "_law_k"]) (sc := defScope s_law_kinds) (by decide +kernel)) (fun _ _ _ _ _ => (pg_name (i := 6) sc_law_kinds.nd rfl (.inl rfl))) (fun _ _ _ _ _ => pts_nil) (fun _ _ _ _ _ => (pe_cl C__law_one (hr.mono (by omega)) (by rfl) (pa_cons (pv 0) (pa_cons pe_str pa_nil)))))))
  (pss_cons (ps_set (i := 3) sc_law_kinds.nd rfl (.inr rfl) (pe_cl C__law_next (hr.mono (by omega)) (by rfl) (pa_cons (pv 0) (pa_cons pe_int pa_nil))))
  (pss_cons (ps_set (i := 4) sc_law_kinds.nd rfl (.inl rfl) (pe_cl C__law_next (hr.mono (by omega)) (by rfl) (pa_cons (pv 0) (pa_cons pe_int pa_nil))))
  (pss_cons (ps_setLc (i := 5) (own := [("_law_k", 6)]) (g := (gName 6)) (tt := tYes) rfl sc_law_kinds.nd rfl rfl (sw_true rfl rfl rfl (by decide +kernel)) (pi_range1 (by rfl) m_range (pa_cons (pv 1) pa_nil)) (blkOk_by (own := [("_law_k", 6)]) (N := ["_law_drawn", "_law_many", "_law_stem", "_law_first", "_law_way_here", "_law_found", "_law_k"]) (sc := defScope s_law_kinds) (by decide +kernel)) (fun _ _ _ _ _ => (pg_name (i := 6) sc_law_kinds.nd rfl (.inl rfl))) (fun _ _ _ _ _ => pts_nil) (fun _ _ _ _ _ => (pe_op op_add_str (pv 2) (pe_ix ix_str pe_str (pe_op op_addL (pv 3) (pv 6)) (fun _ _ => rfl)))))
  (pss_cons (ps_if (pt_cmpR op_eq (pv 4) pe_int (nomark _))
    (pss_one (ps_setLc (i := 5) (own := [("_law_k", 6)]) (g := (gName 6)) (tt := tYes) rfl sc_law_kinds.nd rfl rfl (sw_true rfl rfl rfl (by decide +kernel)) (pi_range1 (by rfl) m_range (pa_cons (pv 1) pa_nil)) (blkOk_by (own := [("_law_k", 6)]) (N := ["_law_drawn", "_law_many", "_law_stem", "_law_first", "_law_way_here", "_law_found", "_law_k"]) (sc := defScope s_law_kinds) (by decide +kernel)) (fun _ _ _ _ _ => (pg_name (i := 6) sc_law_kinds.nd rfl (.inl rfl))) (fun _ _ _ _ _ => pts_nil) (fun _ _ _ _ _ => (pe_slice sl_str (pe_op op_add_str (pe_op op_repS pe_str (pe_op op_addL (pv 6) pe_int)) (pv 2)) po_none (po_some (pe_op op_addL (pe_op op_addL (pe_op op_subL pe_int (pv 1)) (pv 6)) pe_int))))))
    pss_nil)
  (pss_one (ps_ret (pe_callTy call_tuple_of (by rfl) m_tuple (by decide +kernel) (pa_cons (pe_callB cr_sortedS (by rfl) m_sorted (by decide +kernel) (pa_cons (pv 5) pa_nil)) pa_nil))))))))), ?_⟩
    -- the stem
    refine ⟨⟨_, rfl⟩, .ref g.d, rfl, g, B, 8, rfl, hF, by omega, by decide, by decide, fun n H1 n0 n8 F1 K1 => ⟨n, rfl, by omega, by omega, fun D nD => ?_⟩⟩
    refine lcR (g := g) (B := B - 1) 1 (fun _ y => ∃ c : Nat, y = V.str ⟨#[c]⟩ ∧ True) (fun i acc => acc.length = i) nD F1 (by omega) (by omega) (fun _ _ _ _ h => h) rfl (fun i H2 B' hi F2 hB' K2 Qk Qs qk qs => ?_) (fun H2 acc F2 K2 eD el pl al => ?_)
    · refine ⟨rfl, .ref g.d, rfl, g, B', _, rfl, F2, hB', .inr (.inr ⟨_, rfl, by decide, by decide, fun c H3 hc F3 K3 => ?_⟩)⟩
      exact qk _ _ F3 K3 ⟨c, rfl, trivial⟩ (fun acc h => by rw [List.length_append, h]; rfl)
    obtain ⟨cs, rfl, _⟩ := all_map al
    rw [List.length_map] at pl
    refine ⟨_, D, cs.map (fun c => (⟨#[c]⟩ : Str)), rfl, rfl, .inl (SqL.of (by rw [eD, List.map_map]; rfl)), ?_, ?_⟩
    · show ((cs.map (fun c => (⟨#[c]⟩ : Str))).map (·.length)).sum + (cs.map (fun c => (⟨#[c]⟩ : Str))).length * 0 ≤ 16777216
      rw [List.map_map, show ((fun x : Str => x.length) ∘ fun c => (⟨#[c]⟩ : Str)) = fun _ => 1 from rfl, List.map_const', List.sum_replicate_nat]
      omega
    have hst : (Txt.join (Str.ofString "") (cs.map fun c => (⟨#[c]⟩ : Str))).length ≤ 7 := by
      rw [show Str.ofString "" = ⟨#[]⟩ from rfl, join0]
      show cs.toArray.size ≤ 7
      rw [List.size_toArray]
      omega
    generalize Txt.join (Str.ofString "") (cs.map fun c => (⟨#[c]⟩ : Str)) = stem at hst ⊢
    -- first, way_here
    refine ⟨.ref g.d, rfl, g, _, 23, rfl, F2, by omega, by decide, by decide, fun fi H3 fi0 fi1 F3 K3 => ?_⟩
    refine ⟨.ref g.d, rfl, g, _, 3, rfl, F3, by omega, by decide, by decide, fun wh H4 wh0 wh1 F4 K4 => ?_⟩
    have K14 : Kp g H H4 := ((K1.trans K2).trans K3).trans K4
    -- found
    refine ⟨.int m, rfl, m, rfl, by omega, by omega, fun D2 nD2 => ?_⟩
    refine lcR (g := g) 0 (fun _ y => ∃ z : Str, y = V.str z ∧ True) (fun i acc => acc.length = i) nD2 F4 (by omega) (by omega) (fun _ _ _ _ h => h) rfl (fun i H5 B' hi F5 hB' K5 Qk Qs qk qs => ?_) (fun H5 acc5 F5 K5 eD5 el5 pl5 al5 => ?_)
    · refine ⟨rfl, .str stem, rfl, .int fi, rfl, .int (0 + i), rfl, fi, 0 + i, rfl, rfl, fun z ez => ?_⟩
      obtain ⟨c, hc, _, _⟩ := atI_in (xs := (Str.ofString "abcdefghijklmnopqrstuvwxyz").cps.toList) (i := z) (by omega) (by
        have : (Str.ofString "abcdefghijklmnopqrstuvwxyz").cps.toList.length = 26 := by decide
        rw [this]
        omega)
      refine ⟨_, z, c, rfl, rfl, by decide, hc, stem, _, rfl, rfl, ?_, ?_⟩
      · exact sz (by
          show stem.length + 1 ≤ 100000
          omega)
      · exact qk _ _ F5 (Kp.refl _ _) ⟨_, rfl, trivial⟩ (fun acc h => by rw [List.length_append, h]; rfl)
    obtain ⟨zs, rfl, _⟩ := all_map al5
    have fin : ∀ (zs : List Str) (D2 : Addr) (H5 : Hp), zs.length = m.toNat → H5 D2 = some (.lst (zs.map V.str)) → Fu g (B - 10) H5 → Kp g H H5 → rSortedS K [.ref D2] H5 fun v H6 => ∃ p ys, [v] = [V.ref p] ∧ ((SqL K H6 p ys ∧ ∀ l, H6 l = none → Q (.ref l) (upd H6 l (.tup ys))) ∨ (SqT K H6 p ys ∧ Q (.ref p) H6)) := by
      intro zs D2 H5 lz eD5 F5 K5
      refine ⟨D2, zs, rfl, SqL.of eD5, by omega, fun ys p perm _ np => ⟨p, _, rfl, .inl ⟨SqL.of upd_same, fun l nl => ?_⟩⟩⟩
      exact q l ys _ (by rw [perm.length_eq]; exact lz) upd_same ((F5.new np).new nl) (K5.trans ((Kp.new np).trans (Kp.new nl)))
    rw [List.length_map] at pl5
    -- if way_here == 0
    refine ⟨.int wh, rfl, rfl, _, rfl, ite2 (fun e => ?_) (fun e => ?_)⟩
    · refine ⟨.int m, rfl, m, rfl, by omega, by omega, fun D3 nD3 => ?_⟩
      refine lcR (g := g) 0 (fun _ y => ∃ z : Str, y = V.str z ∧ True) (fun i acc => acc.length = i) nD3 F5 (by omega) (by omega) (fun _ _ _ _ h => h) rfl (fun i H6 B' hi F6 hB' K6 Qk Qs qk qs => ?_) (fun H6 acc6 F6 K6 eD6 el6 pl6 al6 => ?_)
      · refine ⟨rfl, .int (0 + i), rfl, 0 + i, 1, rfl, rfl, fun z ez => ⟨_, z, rfl, rfl, by omega, by omega, by decide, by decide, fun r _ er => ⟨.str stem, rfl, r, stem, rfl, rfl, ?_, ?_⟩⟩⟩
        · have er : r.length = z.toNat * 1 := er
          exact sz (by omega)
        · refine ⟨.int m, rfl, 8, m, rfl, rfl, fun a ea => ⟨.int (0 + i), rfl, a, 0 + i, rfl, rfl, fun b eb => ⟨b, 1, rfl, rfl, fun c ec => ⟨c, rfl, _, rfl, ?_, ?_⟩⟩⟩⟩
          · have er : r.length = z.toNat * 1 := er
            rw [str_len_app]
            exact sz (by omega)
          · exact qk _ _ F6 (Kp.refl _ _) ⟨_, rfl, trivial⟩ (fun acc h => by rw [List.length_append, h]; rfl)
      obtain ⟨z6, rfl, _⟩ := all_map al6
      rw [List.length_map] at pl6
      exact ⟨.ref D3, rfl, fin z6 D3 H6 pl6 eD6 (F6.mono (by omega)) ((K14.trans K5).trans K6)⟩
    · exact ⟨.ref D2, rfl, fin zs D2 H5 pl5 eD5 (F5.mono (by omega)) (K14.trans K5)⟩
end
end Rt
namespace Rt
open PySem PySem.Spec PyProof.Rows L2
/-! ### what is drawn -/
def IsSrc (n : Int) (ks : List Str) (H : Hp) (v : V) : Prop := ∃ (p : Addr) (k : Str) (a pl s m : Int), v = .ref p ∧ H p = some (.tup [.str k, .int a, .int pl, .int s, .int m]) ∧ k ∈ ks ∧ 0 ≤ a ∧ a ≤ 20 ∧ 0 ≤ pl ∧ pl < n ∧ 0 ≤ s ∧ s ≤ 1000000 ∧ 1 ≤ m ∧ m ≤ 9
def IsPrt (ks : List Str) (H : Hp) (v : V) : Prop := ∃ (p : Addr) (k : Str) (l h : Int), v = .ref p ∧ H p = some (.tup [.str k, .int l, .int h]) ∧ k ∈ ks ∧ 0 ≤ l ∧ l ≤ h ∧ h ≤ 20
def IsWay (n : Int) (ks : List Str) (H : Hp) (v : V) : Prop := ∃ (p : Addr) (k : Str) (pp : Addr) (ps : List V) (kp : Str) (ph : Addr) (hs : List Int) (wt : Int), v = .ref p ∧ H p = some (.tup [.str k, .ref pp, .str kp, .ref ph, .int wt]) ∧ k ∈ ks ∧
  H pp = some (.tup ps) ∧ 1 ≤ ps.length ∧ ps.length ≤ 3 ∧ (∀ x ∈ ps, IsPrt ks H x) ∧ (kp = "oldest" ∨ kp = "youngest") ∧ H ph = some (.tup (hs.map V.int)) ∧ hs.Pairwise (· < ·) ∧ (∀ h ∈ hs, 0 ≤ h ∧ h < n) ∧ 1 ≤ wt ∧ wt ≤ 6
structure IsWorld (H : Hp) (p : Addr) (n : Int) (pk : Addr) (ks : List Str) (ps : Addr) (ss : List V) (pw : Addr) (ws : List V) : Prop where
  hp : H p = some (.tup [.int n, .ref pk, .ref ps, .ref pw])
  n1 : 1 ≤ n
  n6 : n ≤ 6
  hk : H pk = some (.tup (ks.map V.str))
  k1 : 1 ≤ ks.length
  k4 : ks.length ≤ 4
  hs : H ps = some (.tup ss)
  s6 : ss.length ≤ 6
  sa : ∀ x ∈ ss, IsSrc n ks H x
  hw : H pw = some (.tup ws)
  w1 : 1 ≤ ws.length
  w8 : ws.length ≤ 8
  wa : ∀ x ∈ ws, IsWay n ks H x
theorem IsSrc.mono {n : Int} {ks : List Str} {H H' : Hp} {v : V} (t : Tk H H') (h : IsSrc n ks H v) : IsSrc n ks H' v := by
  obtain ⟨p, k, a, pl, s, m, e, hp, r⟩ := h
  exact ⟨p, k, a, pl, s, m, e, t _ _ hp, r⟩
theorem IsPrt.mono {ks : List Str} {H H' : Hp} {v : V} (t : Tk H H') (h : IsPrt ks H v) : IsPrt ks H' v := by
  obtain ⟨p, k, a, b, e, hp, r⟩ := h
  exact ⟨p, k, a, b, e, t _ _ hp, r⟩
theorem IsWay.mono {n : Int} {ks : List Str} {H H' : Hp} {v : V} (t : Tk H H') (h : IsWay n ks H v) : IsWay n ks H' v := by
  obtain ⟨p, k, pp, ps, kp, ph, hs, wt, e, hp, hk, h1, h2, h3, h4, h5, h6, r⟩ := h
  exact ⟨p, k, pp, ps, kp, ph, hs, wt, e, t _ _ hp, hk, t _ _ h1, h2, h3, fun x hx => (h4 x hx).mono t, h5, t _ _ h6, r⟩
theorem IsWorld.mono {H H' : Hp} {p pk ps pw : Addr} {n : Int} {ks : List Str} {ss ws : List V} (t : Tk H H') (h : IsWorld H p n pk ks ps ss pw ws) : IsWorld H' p n pk ks ps ss pw ws :=
  ⟨t _ _ h.hp, h.n1, h.n6, t _ _ h.hk, h.k1, h.k4, t _ _ h.hs, h.s6, fun x hx => (h.sa x hx).mono t, t _ _ h.hw, h.w1, h.w8, fun x hx => (h.wa x hx).mono t⟩
section
variable {P : Program} {w : World} {K : PySem.W.Frag} {mg : Str → Option Value} {base : Heap}
def spSource : Sp := fun vs H Q _ => ∃ (g : Gd) (B : Nat) (n old : Int) (pk : Addr) (ks : List Str), vs = [.ref g.d, .int n, .ref pk, .int old] ∧ Fu g B H ∧ 9 ≤ B ∧ 1 ≤ n ∧ n ≤ 6 ∧ 0 ≤ old ∧ old ≤ 20 ∧ H pk = some (.tup (ks.map V.str)) ∧ 1 ≤ ks.length ∧ ks.length ≤ 4 ∧
  ∀ v H', IsSrc n ks H' v → Fu g (B - 9) H' → Kp g H H' → Q v H'
theorem ok_source {f : Addr} {fd : FuncData} (F : Fun K "_law_source" "_law_source" s_law_source f fd)
    (C__law_next : Cl P w K mg base 1 "_law_next" ["_law_drawn", "_law_below"] spNext) (C__law_one : Cl P w K mg base 2 "_law_one" ["_law_drawn", "_law_wares"] (spOne K)) :
    FnOk P w K mg base CX0 3 f fd ["_law_drawn", "_law_size", "_law_kinds_here", "_law_old"] spSource := by
  refine F.ok sc_law_source (fun vs H Q E h => ?_) (fun cdv A outer s H vs Q E hr h => ?_)
  · obtain ⟨g, B, n, old, pk, ks, rfl, _⟩ := h
    rfl
  · obtain ⟨g, B, n, old, pk, ks, rfl, hF, hB, hn1, hn6, ho0, ho1, hk, hk1, hk4, q⟩ := h
    refine ⟨_, (pss_cons (ps_set (i := 4) sc_law_source.nd rfl (.inl rfl) (pe_ix ix_list (pe_lstL (pa_cons pe_int (pa_cons (pe_cl C__law_next (hr.mono (by omega)) (by rfl) (pa_cons (pv 0) (pa_cons pe_int pa_nil))) (pa_cons (pe_cl C__law_next (hr.mono (by omega)) (by rfl) (pa_cons (pv 0) (pa_cons pe_int pa_nil))) (pa_cons (pe_op op_subL (pe_op op_powL pe_int pe_int) (pe_cl C__law_next (hr.mono (by omega)) (by rfl) (pa_cons (pv 0) (pa_cons pe_int pa_nil)))) pa_nil))))) (pe_cl C__law_next (hr.mono (by omega)) (by rfl) (pa_cons (pv 0) (pa_cons pe_int pa_nil))) (fun _ _ => rfl)))
  (pss_cons (ps_set (i := 5) sc_law_source.nd rfl (.inl rfl) (pe_op op_mulL (pe_cl C__law_next (hr.mono (by omega)) (by rfl) (pa_cons (pv 0) (pa_cons (pe_op op_addL (pv 3) pe_int) pa_nil))) (pe_cl C__law_next (hr.mono (by omega)) (by rfl) (pa_cons (pv 0) (pa_cons pe_int pa_nil)))))
  (pss_cons (ps_par (i := 6) (j := 7) (by rfl) sc_law_source.nd rfl rfl (by decide) rfl rfl (pa_cons (pe_cl C__law_one (hr.mono (by omega)) (by rfl) (pa_cons (pv 0) (pa_cons (pv 2) pa_nil))) (pa_cons (pe_cl C__law_next (hr.mono (by omega)) (by rfl) (pa_cons (pv 0) (pa_cons (pv 1) pa_nil))) pa_nil)) (by rfl))
  (pss_one (ps_ret (pe_tupL (pa_cons (pv 6) (pa_cons (pv 5) (pa_cons (pv 7) (pa_cons (pv 4) (pa_cons (pe_op op_addL pe_int (pe_cl C__law_next (hr.mono (by omega)) (by rfl) (pa_cons (pv 0) (pa_cons pe_int pa_nil)))) pa_nil))))))))))), ?_⟩
    refine ⟨.ref g.d, rfl, g, B, 12, rfl, hF, by omega, by decide, by decide, fun x1 H1 a1 b1 F1 K1 => ?_⟩
    refine ⟨.ref g.d, rfl, g, _, 40, rfl, F1, by omega, by decide, by decide, fun x2 H2 a2 b2 F2 K2 => ?_⟩
    refine ⟨10, 6, rfl, rfl, by decide, by decide, by decide, fun z ez => ⟨.ref g.d, rfl, g, _, 30, rfl, F2, by omega, by decide, by decide, fun x3 H3 a3 b3 F3 K3 => ⟨z, x3, rfl, rfl, fun y ey => ⟨sz (n := 4) (by decide), fun p H4 np eH4 => ?_⟩⟩⟩⟩
    have ez : z = 1000000 := ez
    have F4 : Fu g (B - 1 - 1 - 1) H4 := by rw [eH4]; exact F3.new np
    have K4 : Kp g H3 H4 := by rw [eH4]; exact Kp.new np
    have hp4 : H4 p = some (.lst [.int 0, .int x1, .int x2, .int y]) := by rw [eH4]; exact upd_same
    have oP := F3.off np
    refine ⟨.ref g.d, rfl, g, _, 4, rfl, F4, by omega, by decide, by decide, fun i H5 i0 i4 F5 K5 => ?_⟩
    obtain ⟨v, hv, vm, _⟩ := atI_in (xs := [V.int 0, V.int x1, V.int x2, V.int y]) i0 i4
    obtain ⟨sn, rfl, sn0, sn1⟩ : ∃ sn : Int, v = .int sn ∧ 0 ≤ sn ∧ sn ≤ 1000000 := by
      simp only [List.mem_cons, List.not_mem_nil, or_false] at vm
      rcases vm with rfl | rfl | rfl | rfl
      · exact ⟨_, rfl, by decide, by decide⟩
      · exact ⟨_, rfl, by omega, by omega⟩
      · exact ⟨_, rfl, by omega, by omega⟩
      · exact ⟨_, rfl, by omega, by omega⟩
    refine ⟨p, _, i, _, rfl, rfl, SqL.of (K5.off oP hp4), hv, ?_⟩
    have K05 : Kp g H H5 := (((K1.trans K2).trans K3).trans K4).trans K5
    -- age
    refine ⟨.ref g.d, rfl, .int old, rfl, old, 1, rfl, rfl, fun o1 eo1 => ⟨g, _, o1, rfl, F5, by omega, by omega, by omega, fun ag H6 ag0 ag1 F6 K6 => ⟨.ref g.d, rfl, g, _, 2, rfl, F6, by omega, by decide, by decide, fun tw H7 tw0 tw1 F7 K7 => ⟨ag, tw, rfl, rfl, .inl ⟨by omega, by omega⟩, fun ag2 eag2 => ?_⟩⟩⟩⟩
    have hag : 0 ≤ ag2 ∧ ag2 ≤ 20 := by
      have : tw = 0 ∨ tw = 1 := by omega
      rcases this with rfl | rfl <;> omega
    have K07 : Kp g H H7 := (K05.trans K6).trans K7
    have hk7 : H7 pk = some (.tup (ks.map V.str)) := hF.tk K07 _ _ hk
    -- kind, place
    refine ⟨.ref g.d, rfl, .ref pk, rfl, g, _, .ref pk, rfl, F7, by omega, .inr (.inl ⟨pk, _, rfl, hk7, by rw [List.length_map]; omega, by rw [List.length_map]; omega, fun v H8 vm F8 K8 => ?_⟩)⟩
    obtain ⟨k, km, rfl⟩ := List.mem_map.mp vm
    refine ⟨.ref g.d, rfl, .int n, rfl, g, _, n, rfl, F8, by omega, by omega, by omega, fun pl H9 pl0 pl1 F9 K9 => ⟨_, _, rfl, ?_⟩⟩
    -- the source
    refine ⟨.str k, rfl, .int ag2, rfl, .int pl, rfl, .int sn, rfl, .ref g.d, rfl, g, _, 9, rfl, F9, by omega, by decide, by decide, fun mn H10 mn0 mn1 F10 K10 => ⟨1, mn, rfl, rfl, fun mm emm => ⟨sz (n := 5) (by decide), fun p2 H11 np2 eH11 => ?_⟩⟩⟩
    subst eH11
    exact q _ _ ⟨p2, k, ag2, pl, sn, mm, rfl, upd_same, km, hag.1, hag.2, pl0, pl1, sn0, sn1, by omega, by omega⟩ ((F10.new np2).mono (by omega)) ((((K07.trans K8).trans K9).trans K10).trans (Kp.new np2))
def spPart : Sp := fun vs H Q _ => ∃ (g : Gd) (B : Nat) (old : Int) (pk : Addr) (ks : List Str), vs = [.ref g.d, .ref pk, .int old] ∧ Fu g B H ∧ 5 ≤ B ∧ 0 ≤ old ∧ old ≤ 20 ∧ H pk = some (.tup (ks.map V.str)) ∧ 1 ≤ ks.length ∧ ks.length ≤ 4 ∧
  ∀ v H', IsPrt ks H' v → Fu g (B - 5) H' → Kp g H H' → Q v H'
theorem ok_part {f : Addr} {fd : FuncData} (F : Fun K "_law_part" "_law_part" s_law_part f fd) (m_min : mg "min" = none)
    (C__law_next : Cl P w K mg base 1 "_law_next" ["_law_drawn", "_law_below"] spNext) (C__law_one : Cl P w K mg base 2 "_law_one" ["_law_drawn", "_law_wares"] (spOne K)) :
    FnOk P w K mg base CX0 3 f fd ["_law_drawn", "_law_kinds_here", "_law_old"] spPart := by
  refine F.ok sc_law_part (fun vs H Q E h => ?_) (fun cdv A outer s H vs Q E hr h => ?_)
  · obtain ⟨g, B, old, pk, ks, rfl, _⟩ := h
    rfl
  · obtain ⟨g, B, old, pk, ks, rfl, hF, hB, ho0, ho1, hk, hk1, hk4, q⟩ := h
    refine ⟨_, (pss_cons (ps_set (i := 3) sc_law_part.nd rfl (.inl rfl) (pe_cl C__law_next (hr.mono (by omega)) (by rfl) (pa_cons (pv 0) (pa_cons (pe_op op_addL (pv 2) pe_int) pa_nil))))
  (pss_cons (ps_set (i := 4) sc_law_part.nd rfl (.inl rfl) (pe_ix ix_list (pe_lstL (pa_cons (pv 3) (pa_cons (pe_callB (call_min2 rfl) (by rfl) m_min (by decide +kernel) (pa_cons (pv 2) (pa_cons (pe_op op_addL (pv 3) (pe_cl C__law_next (hr.mono (by omega)) (by rfl) (pa_cons (pv 0) (pa_cons pe_int pa_nil)))) pa_nil))) (pa_cons (pv 2) pa_nil)))) (pe_cl C__law_next (hr.mono (by omega)) (by rfl) (pa_cons (pv 0) (pa_cons pe_int pa_nil))) (fun _ _ => rfl)))
  (pss_one (ps_ret (pe_tupL (pa_cons (pe_cl C__law_one (hr.mono (by omega)) (by rfl) (pa_cons (pv 0) (pa_cons (pv 1) pa_nil))) (pa_cons (pe_ix ix_list (pe_lstL (pa_cons (pv 3) (pa_cons (pv 3) (pa_cons pe_int pa_nil)))) (pe_cl C__law_next (hr.mono (by omega)) (by rfl) (pa_cons (pv 0) (pa_cons pe_int pa_nil))) (fun _ _ => rfl)) (pa_cons (pv 4) pa_nil)))))))), ?_⟩
    refine ⟨.ref g.d, rfl, .int old, rfl, old, 1, rfl, rfl, fun o1 eo1 => ⟨g, B, o1, rfl, hF, by omega, by omega, by omega, fun l H1 l0 l1 F1 K1 => ?_⟩⟩
    refine ⟨.int l, rfl, .int old, rfl, .int l, rfl, .ref g.d, rfl, g, _, 5, rfl, F1, by omega, by decide, by decide, fun x H2 x0 x1 F2 K2 => ⟨l, x, rfl, rfl, fun y ey => ⟨old, y, rfl, .int old, rfl, sz (n := 3) (by decide), fun p H3 np eH3 => ?_⟩⟩⟩
    have F3 : Fu g (B - 1 - 1) H3 := by rw [eH3]; exact F2.new np
    have K3 : Kp g H2 H3 := by rw [eH3]; exact Kp.new np
    have hp3 : H3 p = some (.lst [.int l, .int (if y < old then y else old), .int old]) := by rw [eH3]; exact upd_same
    have oP := F2.off np
    refine ⟨.ref g.d, rfl, g, _, 3, rfl, F3, by omega, by decide, by decide, fun i H4 i0 i3 F4 K4 => ?_⟩
    obtain ⟨v, hv, vm, _⟩ := atI_in (xs := [V.int l, V.int (if y < old then y else old), V.int old]) i0 i3
    obtain ⟨gr, rfl, gr0, gr1⟩ : ∃ gr : Int, v = .int gr ∧ l ≤ gr ∧ gr ≤ old := by
      simp only [List.mem_cons, List.not_mem_nil, or_false] at vm
      rcases vm with rfl | rfl | rfl
      · exact ⟨_, rfl, by omega, by omega⟩
      · exact ⟨_, rfl, by split <;> omega, by split <;> omega⟩
      · exact ⟨_, rfl, by omega, by omega⟩
    refine ⟨p, _, i, _, rfl, rfl, SqL.of (K4.off oP hp3), hv, ?_⟩
    have K04 : Kp g H H4 := ((K1.trans K2).trans K3).trans K4
    have hk4' : H4 pk = some (.tup (ks.map V.str)) := hF.tk K04 _ _ hk
    refine ⟨.ref g.d, rfl, .ref pk, rfl, g, _, .ref pk, rfl, F4, by omega, .inr (.inl ⟨pk, _, rfl, hk4', by rw [List.length_map]; omega, by rw [List.length_map]; omega, fun v H5 vm F5 K5 => ?_⟩)⟩
    obtain ⟨k, km, rfl⟩ := List.mem_map.mp vm
    refine ⟨.int l, rfl, .int l, rfl, sz (n := 3) (by decide), fun p2 H6 np2 eH6 => ?_⟩
    have F6 : Fu g (B - 1 - 1 - 1 - 1) H6 := by rw [eH6]; exact F5.new np2
    have K6 : Kp g H5 H6 := by rw [eH6]; exact Kp.new np2
    have hp6 : H6 p2 = some (.lst [.int l, .int l, .int 0]) := by rw [eH6]; exact upd_same
    have oP2 := F5.off np2
    refine ⟨.ref g.d, rfl, g, _, 3, rfl, F6, by omega, by decide, by decide, fun j H7 j0 j3 F7 K7 => ?_⟩
    obtain ⟨v, hv, vm, _⟩ := atI_in (xs := [V.int l, V.int l, V.int 0]) j0 j3
    obtain ⟨ls, rfl, ls0, ls1⟩ : ∃ ls : Int, v = .int ls ∧ 0 ≤ ls ∧ ls ≤ l := by
      simp only [List.mem_cons, List.not_mem_nil, or_false] at vm
      rcases vm with rfl | rfl | rfl
      · exact ⟨_, rfl, by omega, by omega⟩
      · exact ⟨_, rfl, by omega, by omega⟩
      · exact ⟨_, rfl, by omega, by omega⟩
    refine ⟨p2, _, j, _, rfl, rfl, SqL.of (K7.off oP2 hp6), hv, .int gr, rfl, sz (n := 3) (by decide), fun p3 H8 np3 eH8 => ?_⟩
    subst eH8
    exact q _ _ ⟨p3, k, ls, gr, rfl, upd_same, km, ls0, by omega, by omega⟩ ((F7.new np3).mono (by omega)) ((((K04.trans K5).trans K6).trans K7).trans (Kp.new np3))
end
end Rt
namespace Rt
open PySem PySem.Spec PyProof.Rows L2
section
variable {P : Program} {w : World} {K : PySem.W.Frag} {mg : Str → Option Value} {base : Heap}
/-- rising places below i -/
def Ris (i : Nat) (acc : List V) : Prop := ∃ hs : List Int, acc = hs.map V.int ∧ hs.Pairwise (· < ·) ∧ ∀ h ∈ hs, 0 ≤ h ∧ h < i
theorem Ris.skip {i : Nat} {acc : List V} (h : Ris i acc) : Ris (i + 1) acc := by
  obtain ⟨hs, e, p, a⟩ := h
  exact ⟨hs, e, p, fun x hx => ⟨(a x hx).1, by have := (a x hx).2; omega⟩⟩
theorem Ris.put {i : Nat} {acc : List V} (h : Ris i acc) : Ris (i + 1) (acc ++ [.int (0 + i)]) := by
  obtain ⟨hs, rfl, p, a⟩ := h
  refine ⟨hs ++ [(i : Int)], by rw [List.map_append, Int.zero_add]; rfl, ?_, fun x hx => ?_⟩
  · refine List.pairwise_append.mpr ⟨p, List.pairwise_singleton _ _, fun x hx y hy => ?_⟩
    have e : y = (i : Int) := by simpa using hy
    rw [e]
    exact (a x hx).2
  · rcases List.mem_append.mp hx with hx | hx
    · exact ⟨(a x hx).1, by have := (a x hx).2; omega⟩
    · have e : x = (i : Int) := by simpa using hx
      omega
def spWay : Sp := fun vs H Q _ => ∃ (g : Gd) (B : Nat) (n old : Int) (pk : Addr) (ks : List Str), vs = [.ref g.d, .int n, .ref pk, .int old] ∧ Fu g B H ∧ 25 ≤ B ∧ 1 ≤ n ∧ n ≤ 6 ∧ 0 ≤ old ∧ old ≤ 20 ∧ H pk = some (.tup (ks.map V.str)) ∧ 1 ≤ ks.length ∧ ks.length ≤ 4 ∧
  ∀ v H', IsWay n ks H' v → Fu g (B - 25) H' → Kp g H H' → Q v H'
theorem ok_way {f : Addr} {fd : FuncData} (F : Fun K "_law_way" "_law_way" s_law_way f fd) (m_range : mg "range" = none) (m_tuple : mg "tuple" = none)
    (C__law_next : Cl P w K mg base 1 "_law_next" ["_law_drawn", "_law_below"] spNext) (C__law_one : Cl P w K mg base 2 "_law_one" ["_law_drawn", "_law_wares"] (spOne K))
    (C__law_part : Cl P w K mg base 3 "_law_part" ["_law_drawn", "_law_kinds_here", "_law_old"] spPart) :
    FnOk P w K mg base CX0 4 f fd ["_law_drawn", "_law_size", "_law_kinds_here", "_law_old"] spWay := by
  refine F.ok sc_law_way (fun vs H Q E h => ?_) (fun cdv A outer s H vs Q E hr h => ?_)
  · obtain ⟨g, B, n, old, pk, ks, rfl, _⟩ := h
    rfl
  · obtain ⟨g, B, n, old, pk, ks, rfl, hF, hB, hn1, hn6, ho0, ho1, hk, hk1, hk4, q⟩ := h
    refine ⟨_, (pss_cons (ps_set (i := 4) sc_law_way.nd rfl (.inl rfl) (pe_callTy call_tuple_of (by rfl) m_tuple (by decide +kernel) (pa_cons (pe_lc (own := [("_law_k", 7)]) (g := (gName 7)) (tt := tYes) rfl sc_law_way.nd (pi_range1 (by rfl) m_range (pa_cons (pe_ix ix_list (pe_lstL (pa_cons pe_int (pa_cons pe_int (pa_cons pe_int (pa_cons pe_int pa_nil))))) (pe_cl C__law_next (hr.mono (by omega)) (by rfl) (pa_cons (pv 0) (pa_cons pe_int pa_nil))) (fun _ _ => rfl)) pa_nil)) (blkOk_by (own := [("_law_k", 7)]) (N := ["_law_drawn", "_law_size", "_law_kinds_here", "_law_old", "_law_parts", "_law_hours", "_law_keeps", "_law_k", "_law_place"]) (sc := defScope s_law_way) (by decide +kernel)) (fun _ _ _ _ _ => (pg_name (i := 7) sc_law_way.nd rfl (.inl rfl))) (fun _ _ _ _ _ => pts_nil) (fun _ _ _ _ _ => (pe_cl C__law_part (hr.mono (by omega)) (by rfl) (pa_cons (pv 0) (pa_cons (pv 2) (pa_cons (pv 3) pa_nil)))))) pa_nil)))
  (pss_cons (ps_set (i := 5) sc_law_way.nd rfl (.inl rfl) (pe_callTy call_tuple_of (by rfl) m_tuple (by decide +kernel) (pa_cons (pe_lc (own := [("_law_place", 8)]) (g := (gName 8)) rfl sc_law_way.nd (pi_range1 (by rfl) m_range (pa_cons (pv 1) pa_nil)) (blkOk_by (own := [("_law_place", 8)]) (N := ["_law_drawn", "_law_size", "_law_kinds_here", "_law_old", "_law_parts", "_law_hours", "_law_keeps", "_law_k", "_law_place"]) (sc := defScope s_law_way) (by decide +kernel)) (fun _ _ _ _ _ => (pg_name (i := 8) sc_law_way.nd rfl (.inl rfl))) (fun _ _ _ _ _ => (pts_one (pt_cmpR op_gt (pe_cl C__law_next (hr.mono (by omega)) (by rfl) (pa_cons (pv 0) (pa_cons pe_int pa_nil))) pe_int (nomark _)))) (fun _ _ _ _ _ => (pv 8))) pa_nil)))
  (pss_cons (ps_set (i := 6) sc_law_way.nd rfl (.inl rfl) (pe_cl C__law_one (hr.mono (by omega)) (by rfl) (pa_cons (pv 0) (pa_cons (pe_lstL (pa_cons pe_str (pa_cons pe_str pa_nil))) pa_nil))))
  (pss_one (ps_ret (pe_tupL (pa_cons (pe_cl C__law_one (hr.mono (by omega)) (by rfl) (pa_cons (pv 0) (pa_cons (pv 2) pa_nil))) (pa_cons (pv 4) (pa_cons (pv 6) (pa_cons (pv 5) (pa_cons (pe_op op_addL pe_int (pe_cl C__law_next (hr.mono (by omega)) (by rfl) (pa_cons (pv 0) (pa_cons pe_int pa_nil)))) pa_nil))))))))))), ?_⟩
    -- parts
    refine ⟨sz (n := 4) (by decide), fun p H1 np eH1 => ?_⟩
    have F1 : Fu g B H1 := by rw [eH1]; exact hF.new np
    have K1 : Kp g H H1 := by rw [eH1]; exact Kp.new np
    have hp1 : H1 p = some (.lst [.int 1, .int 2, .int 2, .int 3]) := by rw [eH1]; exact upd_same
    have oP := hF.off np
    refine ⟨.ref g.d, rfl, g, _, 4, rfl, F1, by omega, by decide, by decide, fun i H2 i0 i4 F2 K2 => ?_⟩
    obtain ⟨v, hv, vm, _⟩ := atI_in (xs := [V.int 1, V.int 2, V.int 2, V.int 3]) i0 i4
    obtain ⟨m, rfl, m1, m3⟩ : ∃ m : Int, v = .int m ∧ 1 ≤ m ∧ m ≤ 3 := by
      simp only [List.mem_cons, List.not_mem_nil, or_false] at vm
      rcases vm with rfl | rfl | rfl | rfl <;> exact ⟨_, rfl, by decide, by decide⟩
    refine ⟨p, _, i, _, rfl, rfl, SqL.of (K2.off oP hp1), hv, m, rfl, by omega, by omega, fun D nD => ?_⟩
    have K02 : Kp g H H2 := K1.trans K2
    refine lcR (g := g) 5 (IsPrt ks) (fun i acc => acc.length = i) nD F2 (by omega) (by omega) (fun _ _ _ t h => h.mono t) rfl (fun i H3 B' hi F3 hB' K3 Qk Qs qk qs => ?_) (fun H3 ps F3 K3 eD el pl al => ?_)
    · refine ⟨rfl, .ref g.d, rfl, .ref pk, rfl, .int old, rfl, g, B', old, pk, ks, rfl, F3, hB', ho0, ho1, hF.tk (K02.trans K3) _ _ hk, hk1, hk4, fun v H4 hv F4 K4 => ?_⟩
      exact qk _ _ F4 K4 hv (fun acc h => by rw [List.length_append, h]; rfl)
    refine ⟨D, ps, rfl, .inl ⟨SqL.of eD, fun pp npp => ?_⟩⟩
    have F4 := F3.new (o := .tup ps) npp
    have K4 : Kp g H3 (upd H3 pp (.tup ps)) := Kp.new npp
    have hpp : upd H3 pp (.tup ps) pp = some (.tup ps) := upd_same
    have al4 : ∀ x ∈ ps, IsPrt ks (upd H3 pp (.tup ps)) x := fun x hx => (al x hx).mono (Tk.new npp)
    generalize upd H3 pp (.tup ps) = H4 at F4 K4 hpp al4 ⊢
    have K04 : Kp g H H4 := (K02.trans K3).trans K4
    -- hours
    refine ⟨.int n, rfl, n, rfl, by omega, by omega, fun D2 nD2 => ?_⟩
    have eB : B - 1 - m.toNat * 5 ≥ 9 := by omega
    refine lcR (g := g) 1 (fun _ _ => True) Ris nD2 F4 (by omega) (by omega) (fun _ _ _ _ h => h) ⟨[], rfl, List.Pairwise.nil, fun x hx => nomatch hx⟩ (fun i H5 B' hi F5 hB' K5 Qk Qs qk qs => ?_) (fun H5 hv5 F5 K5 eD5 el5 pl5 al5 => ?_)
    · refine ⟨rfl, .ref g.d, rfl, g, B', 4, rfl, F5, hB', by decide, by decide, fun x H6 x0 x1 F6 K6 => ⟨x, 0, rfl, rfl, _, rfl, ite2 (fun e => ?_) (fun e => ?_)⟩⟩
      · exact ⟨_, rfl, qk _ _ F6 K6 trivial (fun acc h => h.put)⟩
      · exact qs _ F6 K6 (fun acc h => h.skip)
    obtain ⟨hs, rfl, hsp, hsa⟩ := pl5
    refine ⟨D2, _, rfl, .inl ⟨SqL.of eD5, fun ph nph => ?_⟩⟩
    have F6 := F5.new (o := .tup (hs.map V.int)) nph
    have K6 : Kp g H5 (upd H5 ph (.tup (hs.map V.int))) := Kp.new nph
    have hph : upd H5 ph (.tup (hs.map V.int)) ph = some (.tup (hs.map V.int)) := upd_same
    generalize upd H5 ph (.tup (hs.map V.int)) = H6 at F6 K6 hph ⊢
    -- keeps
    refine ⟨.ref g.d, rfl, sz (n := 2) (by decide), fun p7 H7 np7 eH7 => ?_⟩
    have F7 : Fu g _ H7 := eH7 ▸ F6.new np7
    have K7 : Kp g H6 H7 := by rw [eH7]; exact Kp.new np7
    have hp7 : H7 p7 = some (.lst [.str "oldest", .str "youngest"]) := by rw [eH7]; exact upd_same
    refine ⟨g, _, .ref p7, rfl, F7, by omega, .inl ⟨p7, _, rfl, F6.off np7, hp7, by decide, by decide, fun v H8 vm F8 K8 => ?_⟩⟩
    obtain ⟨kp, rfl, hkp⟩ : ∃ kp : Str, v = .str kp ∧ (kp = "oldest" ∨ kp = "youngest") := by
      simp only [List.mem_cons, List.not_mem_nil, or_false] at vm
      rcases vm with rfl | rfl
      · exact ⟨_, rfl, .inl rfl⟩
      · exact ⟨_, rfl, .inr rfl⟩
    have K48 : Kp g H4 H8 := ((K5.trans K6).trans K7).trans K8
    -- the way
    refine ⟨.ref g.d, rfl, .ref pk, rfl, g, _, .ref pk, rfl, F8, by omega, .inr (.inl ⟨pk, _, rfl, hF.tk (K04.trans K48) _ _ hk, by rw [List.length_map]; omega, by rw [List.length_map]; omega, fun v H9 vm9 F9 K9 => ?_⟩)⟩
    obtain ⟨k, km, rfl⟩ := List.mem_map.mp vm9
    refine ⟨.ref pp, rfl, .str kp, rfl, .ref ph, rfl, .ref g.d, rfl, g, _, 6, rfl, F9, by omega, by decide, by decide, fun wn H10 wn0 wn1 F10 K10 => ⟨1, wn, rfl, rfl, fun wt ewt => ⟨sz (n := 5) (by decide), fun p11 H11 np11 eH11 => ?_⟩⟩⟩
    have K11 : Kp g H10 H11 := by rw [eH11]; exact Kp.new np11
    have F11 : Fu g _ H11 := eH11 ▸ F10.new np11
    have hp11 : H11 p11 = some (.tup [.str k, .ref pp, .str kp, .ref ph, .int wt]) := by rw [eH11]; exact upd_same
    have T4 : Tk H4 H11 := F4.tk (((K48.trans K9).trans K10).trans K11)
    have T6 : Tk H6 H11 := F6.tk ((((K7.trans K8).trans K9).trans K10).trans K11)
    refine q _ _ ⟨p11, k, pp, ps, kp, ph, hs, wt, rfl, hp11, km, T4 _ _ hpp, by omega, by omega, fun x hx => (al4 x hx).mono T4, hkp, T6 _ _ hph, hsp, fun h hh => ?_, by omega, by omega⟩ (F11.mono (by omega)) ((((K04.trans K48).trans K9).trans K10).trans K11)
    have := hsa h hh
    omega
def spWorld : Sp := fun vs H Q _ => ∃ (g : Gd) (B : Nat) (wd old : Int), vs = [.ref g.d, .int wd, .int old] ∧ Fu g B H ∧ 268 ≤ B ∧ 1 ≤ wd ∧ wd ≤ 6 ∧ 0 ≤ old ∧ old ≤ 20 ∧
  ∀ p n pk ks ps ss pw ws H', IsWorld H' p n pk ks ps ss pw ws → Fu g (B - 268) H' → Kp g H H' → Q (.ref p) H'
theorem ok_world {f : Addr} {fd : FuncData} (F : Fun K "_law_world" "_law_world" s_law_world f fd) (m_range : mg "range" = none) (m_tuple : mg "tuple" = none)
    (C__law_next : Cl P w K mg base 1 "_law_next" ["_law_drawn", "_law_below"] spNext) (C__law_kinds : Cl P w K mg base 3 "_law_kinds" ["_law_drawn", "_law_many"] spKinds)
    (C__law_source : Cl P w K mg base 3 "_law_source" ["_law_drawn", "_law_size", "_law_kinds_here", "_law_old"] spSource) (C__law_way : Cl P w K mg base 4 "_law_way" ["_law_drawn", "_law_size", "_law_kinds_here", "_law_old"] spWay) :
    FnOk P w K mg base CX0 5 f fd ["_law_drawn", "_law_wide", "_law_old"] spWorld := by
  refine F.ok sc_law_world (fun vs H Q E h => ?_) (fun cdv A outer s H vs Q E hr h => ?_)
  · obtain ⟨g, B, wd, old, rfl, _⟩ := h
    rfl
  · obtain ⟨g, B, wd, old, rfl, hF, hB, hw1, hw6, ho0, ho1, q⟩ := h
    refine ⟨_, (pss_cons (ps_set (i := 3) sc_law_world.nd rfl (.inr rfl) (pe_op op_addL pe_int (pe_cl C__law_next (hr.mono (by omega)) (by rfl) (pa_cons (pv 0) (pa_cons (pv 1) pa_nil)))))
  (pss_cons (ps_set (i := 4) sc_law_world.nd rfl (.inr rfl) (pe_cl C__law_kinds (hr.mono (by omega)) (by rfl) (pa_cons (pv 0) (pa_cons (pe_op op_addL pe_int (pe_cl C__law_next (hr.mono (by omega)) (by rfl) (pa_cons (pv 0) (pa_cons pe_int pa_nil)))) pa_nil))))
  (pss_cons (ps_set (i := 5) sc_law_world.nd rfl (.inl rfl) (pe_ix ix_list (pe_lstL (pa_cons pe_int (pa_cons pe_int (pa_cons pe_int (pa_cons pe_int (pa_cons pe_int (pa_cons pe_int pa_nil))))))) (pe_cl C__law_next (hr.mono (by omega)) (by rfl) (pa_cons (pv 0) (pa_cons pe_int pa_nil))) (fun _ _ => rfl)))
  (pss_cons (ps_set (i := 6) sc_law_world.nd rfl (.inl rfl) (pe_callTy call_tuple_of (by rfl) m_tuple (by decide +kernel) (pa_cons (pe_lc (own := [("_law_k", 8)]) (g := (gName 8)) (tt := tYes) rfl sc_law_world.nd (pi_range1 (by rfl) m_range (pa_cons (pv 5) pa_nil)) (blkOk_by (own := [("_law_k", 8)]) (N := ["_law_drawn", "_law_wide", "_law_old", "_law_size", "_law_kinds_here", "_law_many", "_law_sources", "_law_ways", "_law_k"]) (sc := defScope s_law_world) (by decide +kernel)) (fun _ _ _ _ _ => (pg_name (i := 8) sc_law_world.nd rfl (.inl rfl))) (fun _ _ _ _ _ => pts_nil) (fun _ _ _ _ _ => (pe_cl C__law_source (hr.mono (by omega)) (by rfl) (pa_cons (pv 0) (pa_cons (pv 3) (pa_cons (pv 4) (pa_cons (pv 2) pa_nil))))))) pa_nil)))
  (pss_cons (ps_set (i := 5) sc_law_world.nd rfl (.inl rfl) (pe_ix ix_list (pe_lstL (pa_cons pe_int (pa_cons pe_int (pa_cons pe_int (pa_cons pe_int (pa_cons pe_int (pa_cons pe_int pa_nil))))))) (pe_cl C__law_next (hr.mono (by omega)) (by rfl) (pa_cons (pv 0) (pa_cons pe_int pa_nil))) (fun _ _ => rfl)))
  (pss_cons (ps_set (i := 7) sc_law_world.nd rfl (.inl rfl) (pe_callTy call_tuple_of (by rfl) m_tuple (by decide +kernel) (pa_cons (pe_lc (own := [("_law_k", 8)]) (g := (gName 8)) (tt := tYes) rfl sc_law_world.nd (pi_range1 (by rfl) m_range (pa_cons (pv 5) pa_nil)) (blkOk_by (own := [("_law_k", 8)]) (N := ["_law_drawn", "_law_wide", "_law_old", "_law_size", "_law_kinds_here", "_law_many", "_law_sources", "_law_ways", "_law_k"]) (sc := defScope s_law_world) (by decide +kernel)) (fun _ _ _ _ _ => (pg_name (i := 8) sc_law_world.nd rfl (.inl rfl))) (fun _ _ _ _ _ => pts_nil) (fun _ _ _ _ _ => (pe_cl C__law_way (hr.mono (by omega)) (by rfl) (pa_cons (pv 0) (pa_cons (pv 3) (pa_cons (pv 4) (pa_cons (pv 2) pa_nil))))))) pa_nil)))
  (pss_one (ps_ret (pe_tupL (pa_cons (pv 3) (pa_cons (pv 4) (pa_cons (pv 6) (pa_cons (pv 7) pa_nil))))))))))))), ?_⟩
    -- size
    refine ⟨.ref g.d, rfl, .int wd, rfl, g, B, wd, rfl, hF, by omega, by omega, by omega, fun x H1 x0 x1 F1 K1 => ⟨1, x, rfl, rfl, fun n en => ?_⟩⟩
    -- kinds
    refine ⟨.ref g.d, rfl, .ref g.d, rfl, g, _, 4, rfl, F1, by omega, by decide, by decide, fun y H2 y0 y1 F2 K2 => ⟨1, y, rfl, rfl, fun m em => ⟨g, _, m, rfl, F2, by omega, by omega, by omega, fun pk ks H3 lk hk F3 K3 => ?_⟩⟩⟩
    have K03 : Kp g H H3 := (K1.trans K2).trans K3
    -- sources
    refine ⟨sz (n := 6) (by decide), fun p4 H4 np4 eH4 => ?_⟩
    have F4 : Fu g _ H4 := eH4 ▸ F3.new np4
    have K4 : Kp g H3 H4 := by rw [eH4]; exact Kp.new np4
    have hp4 : H4 p4 = some (.lst [.int 1, .int 1, .int 2, .int 3, .int 6, .int 0]) := by rw [eH4]; exact upd_same
    refine ⟨.ref g.d, rfl, g, _, 6, rfl, F4, by omega, by decide, by decide, fun i H5 i0 i6 F5 K5 => ?_⟩
    obtain ⟨v, hv, vm, _⟩ := atI_in (xs := [V.int 1, V.int 1, V.int 2, V.int 3, V.int 6, V.int 0]) i0 i6
    obtain ⟨ms, rfl, ms0, ms6⟩ : ∃ m : Int, v = .int m ∧ 0 ≤ m ∧ m ≤ 6 := by
      simp only [List.mem_cons, List.not_mem_nil, or_false] at vm
      rcases vm with rfl | rfl | rfl | rfl | rfl | rfl <;> exact ⟨_, rfl, by decide, by decide⟩
    refine ⟨p4, _, i, _, rfl, rfl, SqL.of (K5.off (F3.off np4) hp4), hv, .int ms, rfl, ms, rfl, by omega, by omega, fun D nD => ?_⟩
    have K35 : Kp g H3 H5 := K4.trans K5
    refine lcR (g := g) 9 (IsSrc n ks) (fun i acc => acc.length = i) nD F5 (by omega) (by omega) (fun _ _ _ t h => h.mono t) rfl (fun i H6 B' hi F6 hB' K6 Qk Qs qk qs => ?_) (fun H6 ss F6 K6 eD el pl al => ?_)
    · refine ⟨rfl, .ref g.d, rfl, .int n, rfl, .ref pk, rfl, .int old, rfl, g, B', n, old, pk, ks, rfl, F6, hB', by omega, by omega, ho0, ho1, F3.tk (K35.trans K6) _ _ hk, by omega, by omega, fun v H7 hv F7 K7 => ?_⟩
      exact qk _ _ F7 K7 hv (fun acc h => by rw [List.length_append, h]; rfl)
    refine ⟨D, ss, rfl, .inl ⟨SqL.of eD, fun ps nps => ?_⟩⟩
    have F7 := F6.new (o := .tup ss) nps
    have K7 : Kp g H6 (upd H6 ps (.tup ss)) := Kp.new nps
    have hps : upd H6 ps (.tup ss) ps = some (.tup ss) := upd_same
    have al7 : ∀ x ∈ ss, IsSrc n ks (upd H6 ps (.tup ss)) x := fun x hx => (al x hx).mono (Tk.new nps)
    generalize upd H6 ps (.tup ss) = H7 at F7 K7 hps al7 ⊢
    have K37 : Kp g H3 H7 := (K35.trans K6).trans K7
    -- ways
    refine ⟨sz (n := 6) (by decide), fun p8 H8 np8 eH8 => ?_⟩
    have F8 : Fu g _ H8 := eH8 ▸ F7.new np8
    have K8 : Kp g H7 H8 := by rw [eH8]; exact Kp.new np8
    have hp8 : H8 p8 = some (.lst [.int 1, .int 2, .int 2, .int 3, .int 5, .int 8]) := by rw [eH8]; exact upd_same
    refine ⟨.ref g.d, rfl, g, _, 6, rfl, F8, by omega, by decide, by decide, fun i2 H9 i20 i26 F9 K9 => ?_⟩
    obtain ⟨v, hv2, vm, _⟩ := atI_in (xs := [V.int 1, V.int 2, V.int 2, V.int 3, V.int 5, V.int 8]) i20 i26
    obtain ⟨mw, rfl, mw0, mw8⟩ : ∃ m : Int, v = .int m ∧ 1 ≤ m ∧ m ≤ 8 := by
      simp only [List.mem_cons, List.not_mem_nil, or_false] at vm
      rcases vm with rfl | rfl | rfl | rfl | rfl | rfl <;> exact ⟨_, rfl, by decide, by decide⟩
    refine ⟨p8, _, i2, _, rfl, rfl, SqL.of (K9.off (F7.off np8) hp8), hv2, .int mw, rfl, mw, rfl, by omega, by omega, fun D2 nD2 => ?_⟩
    have K79 : Kp g H7 H9 := K8.trans K9
    refine lcR (g := g) 25 (IsWay n ks) (fun i acc => acc.length = i) nD2 F9 (by omega) (by omega) (fun _ _ _ t h => h.mono t) rfl (fun i H10 B' hi F10 hB' K10 Qk Qs qk qs => ?_) (fun H10 ws F10 K10 eD2 el2 pl2 al2 => ?_)
    · refine ⟨rfl, .ref g.d, rfl, .int n, rfl, .ref pk, rfl, .int old, rfl, g, B', n, old, pk, ks, rfl, F10, hB', by omega, by omega, ho0, ho1, F3.tk ((K37.trans K79).trans K10) _ _ hk, by omega, by omega, fun v H11 hv F11 K11 => ?_⟩
      exact qk _ _ F11 K11 hv (fun acc h => by rw [List.length_append, h]; rfl)
    refine ⟨D2, ws, rfl, .inl ⟨SqL.of eD2, fun pw npw => ?_⟩⟩
    have F11 := F10.new (o := .tup ws) npw
    have K11 : Kp g H10 (upd H10 pw (.tup ws)) := Kp.new npw
    have hpw : upd H10 pw (.tup ws) pw = some (.tup ws) := upd_same
    have al11 : ∀ x ∈ ws, IsWay n ks (upd H10 pw (.tup ws)) x := fun x hx => (al2 x hx).mono (Tk.new npw)
    generalize upd H10 pw (.tup ws) = H11 at F11 K11 hpw al11 ⊢
    have K7b : Kp g H7 H11 := (K79.trans K10).trans K11
    refine ⟨.int n, rfl, .ref pk, rfl, .ref ps, rfl, .ref pw, rfl, sz (n := 4) (by decide), fun p12 H12 np12 eH12 => ?_⟩
    have F12 : Fu g _ H12 := eH12 ▸ F11.new np12
    have K12 : Kp g H11 H12 := by rw [eH12]; exact Kp.new np12
    have hp12 : H12 p12 = some (.tup [.int n, .ref pk, .ref ps, .ref pw]) := by rw [eH12]; exact upd_same
    have T7 : Tk H7 H12 := F7.tk (K7b.trans K12)
    have T11 : Tk H11 H12 := F11.tk K12
    exact q p12 n pk ks ps ss pw ws _ ⟨hp12, by omega, by omega, F3.tk ((K37.trans K7b).trans K12) _ _ hk, by omega, by omega, T7 _ _ hps, by omega, fun x hx => (al7 x hx).mono T7, T11 _ _ hpw, by omega, by omega, fun x hx => (al11 x hx).mono T11⟩ (F12.mono (by omega)) (((K03.trans K37).trans K7b).trans K12)
end
end Rt
namespace Rt
open PySem PySem.Spec PyProof.Rows L2
theorem inV_ints (x : Int) : ∀ hs : List Int, inV (.int x) (hs.map V.int) = decide (x ∈ hs)
  | [] => by simp [inV]
  | h :: r => by
    have ih := inV_ints x r
    unfold inV at ih ⊢
    rw [List.map_cons, List.any_cons, ih]
    show (h == x || decide (x ∈ r)) = decide (x ∈ h :: r)
    by_cases e : h = x
    · subst e; simp
    · have e2 : (h == x) = false := beq_eq_false_iff_ne.mpr e
      rw [e2, Bool.false_or]
      have : (x ∈ h :: r) = (x ∈ r) := by simp [Ne.symm e]
      simp only [this]
theorem flat_ints (hs : List Int) : (hs.map V.int).all flatV = true := by
  induction hs with
  | nil => rfl
  | cons h r ih => rw [List.map_cons, List.all_cons, ih]; rfl
theorem atN {α : Type} {xs : List α} {i : Nat} {v : α} (h : xs[i]? = some v) : atI xs (i : Int) = some v := atI_nat h
/-- a world's round, sources, ways -/
structure Wd (H : Hp) (p : Addr) (n : Int) (ss ws : List V) : Prop where
  ex : ∃ pk ps pw, H p = some (.tup [.int n, .ref pk, .ref ps, .ref pw]) ∧ H ps = some (.tup ss) ∧ H pw = some (.tup ws)
  n1 : 1 ≤ n
theorem IsWorld.wd {H : Hp} {p pk ps pw : Addr} {n : Int} {ks : List Str} {ss ws : List V} (h : IsWorld H p n pk ks ps ss pw ws) : Wd H p n ss ws := ⟨⟨pk, ps, pw, h.hp, h.hs, h.hw⟩, h.n1⟩
section
variable {P : Program} {w : World} {K : PySem.W.Frag} {mg : Str → Option Value} {base : Heap}
def spPlace : Sp := fun vs H Q _ => ∃ (p : Addr) (n x : Int) (ss ws : List V), vs = [.ref p, .int x] ∧ Wd H p n ss ws ∧ ∀ z : Int, z = x % n → 0 ≤ z → z < n → Q (.int z) H
theorem ok_place {f : Addr} {fd : FuncData} (F : Fun K "place_of" "place_of" s_place_of f fd) : FnOk P w K mg base CX0 1 f fd ["world", "number"] spPlace := by
  refine F.ok sc_place_of (fun vs H Q E h => ?_) (fun cdv A outer s H vs Q E hr h => ?_)
  · obtain ⟨p, n, x, ss, ws, rfl, _⟩ := h
    rfl
  · obtain ⟨p, n, x, ss, ws, rfl, ⟨⟨pk, ps, pw, hp, hs, hw⟩, n1⟩, q⟩ := h
    refine ⟨_, (pss_one (ps_ret (pe_op op_modL (pv 1) (pe_ix ix_tup (pv 0) pe_int (fun _ _ => rfl))))), ?_⟩
    exact ⟨.int x, rfl, .ref p, rfl, p, _, 0, _, rfl, rfl, SqT.of hp, rfl, x, n, rfl, rfl, by omega, q⟩
def spBrings : Sp := fun vs H Q _ => ∃ (p : Addr) (n m : Int) (ss ws : List V) (i : Nat) (r : Addr) (k : Str) (a pl s mn : Int), vs = [.ref p, .int i, .int m] ∧ Wd H p n ss ws ∧ ss[i]? = some (.ref r) ∧ H r = some (.tup [.str k, .int a, .int pl, .int s, .int mn]) ∧
  ∀ b : Bool, b = decide (s ≤ m ∧ m % n = pl) → Q (.bl b) H
theorem ok_brings {f : Addr} {fd : FuncData} (F : Fun K "brings" "brings" s_brings f fd) (C_place_of : Cl P w K mg base 1 "place_of" ["world", "number"] spPlace) : FnOk P w K mg base CX0 2 f fd ["world", "source", "moment"] spBrings := by
  refine F.ok sc_brings (fun vs H Q E h => ?_) (fun cdv A outer s H vs Q E hr h => ?_)
  · obtain ⟨p, n, m, ss, ws, i, r, k, a, pl, sn, mn, rfl, _⟩ := h
    rfl
  · obtain ⟨p, n, m, ss, ws, i, r, k, a, pl, sn, mn, rfl, W, hi, hr', q⟩ := h
    obtain ⟨⟨pk, ps, pw, hp, hs, hw⟩, n1⟩ := id W
    refine ⟨_, (pss_cons (ps_asg (pe_ix ix_tup (pe_ix ix_tup (pv 0) pe_int (fun _ _ => rfl)) (pv 1) (fun _ _ => rfl)) (pg_tup (by rfl) (pgs_cons (pg_name (i := 3) sc_brings.nd rfl (.inl rfl)) (pgs_cons (pg_name (i := 4) sc_brings.nd rfl (.inl rfl)) (pgs_cons (pg_name (i := 5) sc_brings.nd rfl (.inl rfl)) (pgs_cons (pg_name (i := 6) sc_brings.nd rfl (.inl rfl)) (pgs_cons (pg_name (i := 7) sc_brings.nd rfl (.inl rfl)) pgs_nil)))))))
  (pss_one (ps_ret (pe_and (pe_cmpR op_ge (pv 2) (pv 6) (nomark _)) (pe_one (pe_cmpR op_eq (pe_cl C_place_of (hr.mono (by omega)) (by rfl) (pa_cons (pv 0) (pa_cons (pv 2) pa_nil))) (pv 5) (nomark _))))))), ?_⟩
    refine ⟨.ref p, rfl, p, _, 2, _, rfl, rfl, SqT.of hp, rfl, .int i, rfl, ps, ss, i, _, rfl, rfl, SqT.of hs, atN hi, r, _, rfl, SqT.of hr', rfl, _, _, rfl, _, _, rfl, _, _, rfl, _, _, rfl, _, _, rfl, rfl, ?_⟩
    refine ⟨.int m, rfl, .int sn, rfl, m, sn, rfl, rfl, _, rfl, ite2 (fun e => ?_) (fun e => ?_)⟩
    · have e : sn ≤ m := of_decide_eq_true e
      refine ⟨.ref p, rfl, .int m, rfl, p, n, m, ss, ws, rfl, W, fun z ez z0 z1 => ⟨.int pl, rfl, rfl, q _ ?_⟩⟩
      rw [← ez]
      by_cases h : z = pl
      · rw [decide_eq_true (by rw [h] : V.int z = V.int pl), decide_eq_true ⟨e, h⟩]
      · rw [decide_eq_false (fun x => h (V.int.inj x)), decide_eq_false (fun x => h x.2)]
    · refine q _ ?_
      rw [decide_eq_false (fun x => e (decide_eq_true x.1))]
def spOpens : Sp := fun vs H Q _ => ∃ (p : Addr) (n m : Int) (ss ws : List V) (i : Nat) (r : Addr) (k : Str) (pp : Addr) (kp : Str) (ph : Addr) (wt : Int) (hs : List Int), vs = [.ref p, .int i, .int m] ∧ Wd H p n ss ws ∧ ws[i]? = some (.ref r) ∧ H r = some (.tup [.str k, .ref pp, .str kp, .ref ph, .int wt]) ∧ H ph = some (.tup (hs.map V.int)) ∧
  ∀ b : Bool, b = decide (m % n ∈ hs) → Q (.bl b) H
theorem ok_opens {f : Addr} {fd : FuncData} (F : Fun K "opens" "opens" s_opens f fd) (C_place_of : Cl P w K mg base 1 "place_of" ["world", "number"] spPlace) : FnOk P w K mg base CX0 2 f fd ["world", "way", "moment"] spOpens := by
  refine F.ok sc_opens (fun vs H Q E h => ?_) (fun cdv A outer s H vs Q E hr h => ?_)
  · obtain ⟨p, n, m, ss, ws, i, r, k, pp, kp, ph, wt, hs, rfl, _⟩ := h
    rfl
  · obtain ⟨p, n, m, ss, ws, i, r, k, pp, kp, ph, wt, hs, rfl, W, hi, hr', hh, q⟩ := h
    obtain ⟨⟨pk, ps, pw, hp, _, hw⟩, n1⟩ := id W
    refine ⟨_, (pss_cons (ps_asg (pe_ix ix_tup (pe_ix ix_tup (pv 0) pe_int (fun _ _ => rfl)) (pv 1) (fun _ _ => rfl)) (pg_tup (by rfl) (pgs_cons (pg_name (i := 3) sc_opens.nd rfl (.inl rfl)) (pgs_cons (pg_name (i := 4) sc_opens.nd rfl (.inl rfl)) (pgs_cons (pg_name (i := 5) sc_opens.nd rfl (.inl rfl)) (pgs_cons (pg_name (i := 6) sc_opens.nd rfl (.inl rfl)) (pgs_cons (pg_name (i := 7) sc_opens.nd rfl (.inl rfl)) pgs_nil)))))))
  (pss_one (ps_ret (pe_cmpR op_in_seq (pe_cl C_place_of (hr.mono (by omega)) (by rfl) (pa_cons (pv 0) (pa_cons (pv 2) pa_nil))) (pv 6) (by rfl))))), ?_⟩
    refine ⟨.ref p, rfl, p, _, 3, _, rfl, rfl, SqT.of hp, rfl, .int i, rfl, pw, ws, i, _, rfl, rfl, SqT.of hw, atN hi, r, _, rfl, SqT.of hr', rfl, _, _, rfl, _, _, rfl, _, _, rfl, _, _, rfl, _, _, rfl, rfl, ?_⟩
    refine ⟨.ref p, rfl, .int m, rfl, p, n, m, ss, ws, rfl, W, fun z ez z0 z1 => ⟨.ref ph, rfl, ph, _, rfl, .inr (SqT.of hh), rfl, flat_ints hs, q _ ?_⟩⟩
    show inV (.int z) (hs.map V.int) = _
    rw [inV_ints, ez]
def spFirst : Sp := fun vs H Q _ => ∃ (p : Addr) (n : Int) (ss ws : List V) (i : Nat) (r : Addr) (k : Str) (a pl s mn : Int), vs = [.ref p, .int i] ∧ Wd H p n ss ws ∧ ss[i]? = some (.ref r) ∧ H r = some (.tup [.str k, .int a, .int pl, .int s, .int mn]) ∧
  ∀ z : Int, z = s + (pl - s) % n → Q (.int z) H
theorem ok_first {f : Addr} {fd : FuncData} (F : Fun K "first_of" "first_of" s_first_of f fd) (C_place_of : Cl P w K mg base 1 "place_of" ["world", "number"] spPlace) : FnOk P w K mg base CX0 2 f fd ["world", "source"] spFirst := by
  refine F.ok sc_first_of (fun vs H Q E h => ?_) (fun cdv A outer s H vs Q E hr h => ?_)
  · obtain ⟨p, n, ss, ws, i, r, k, a, pl, sn, mn, rfl, _⟩ := h
    rfl
  · obtain ⟨p, n, ss, ws, i, r, k, a, pl, sn, mn, rfl, W, hi, hr', q⟩ := h
    obtain ⟨⟨pk, ps, pw, hp, hs, hw⟩, n1⟩ := id W
    refine ⟨_, (pss_cons (ps_asg (pe_ix ix_tup (pe_ix ix_tup (pv 0) pe_int (fun _ _ => rfl)) (pv 1) (fun _ _ => rfl)) (pg_tup (by rfl) (pgs_cons (pg_name (i := 2) sc_first_of.nd rfl (.inl rfl)) (pgs_cons (pg_name (i := 3) sc_first_of.nd rfl (.inl rfl)) (pgs_cons (pg_name (i := 4) sc_first_of.nd rfl (.inl rfl)) (pgs_cons (pg_name (i := 5) sc_first_of.nd rfl (.inl rfl)) (pgs_cons (pg_name (i := 6) sc_first_of.nd rfl (.inl rfl)) pgs_nil)))))))
  (pss_one (ps_ret (pe_op op_addL (pv 5) (pe_cl C_place_of (hr.mono (by omega)) (by rfl) (pa_cons (pv 0) (pa_cons (pe_op op_subL (pv 4) (pv 5)) pa_nil))))))), ?_⟩
    refine ⟨.ref p, rfl, p, _, 2, _, rfl, rfl, SqT.of hp, rfl, .int i, rfl, ps, ss, i, _, rfl, rfl, SqT.of hs, atN hi, r, _, rfl, SqT.of hr', rfl, _, _, rfl, _, _, rfl, _, _, rfl, _, _, rfl, _, _, rfl, rfl, ?_⟩
    refine ⟨.int sn, rfl, .ref p, rfl, .int pl, rfl, .int sn, rfl, pl, sn, rfl, rfl, fun x ex => ⟨p, n, x, ss, ws, rfl, W, fun z ez _ _ => ⟨sn, z, rfl, rfl, fun y ey => q y ?_⟩⟩⟩
    rw [ey, ez, ex]
def Best (kp : Str) (os : List Int) (o : Int) : Prop := o ∈ os ∧ (kp = "oldest" → ∀ y ∈ os, o ≤ y) ∧ (¬ kp = "oldest" → ∀ y ∈ os, y ≤ o)
def spBears : Sp := fun vs H Q _ => ∃ (p : Addr) (n m : Int) (ss ws : List V) (i : Nat) (r : Addr) (k : Str) (pp : Addr) (kp : Str) (ph : Addr) (wt : Int) (po : Addr) (os : List Int), vs = [.ref p, .int i, .int m, .ref po] ∧ Wd H p n ss ws ∧ ws[i]? = some (.ref r) ∧ H r = some (.tup [.str k, .ref pp, .str kp, .ref ph, .int wt]) ∧ H po = some (.tup (os.map V.int)) ∧ 0 < os.length ∧
  ∀ (o bn : Int) (t : Addr) (H' : Hp), Best kp os o → bn = m + wt → H t = none → H' = upd H t (.tup [.int o, .int bn]) → Q (.ref t) H'
theorem ok_bears {f : Addr} {fd : FuncData} (F : Fun K "bears" "bears" s_bears f fd) (m_min : mg "min" = none) (m_max : mg "max" = none) : FnOk P w K mg base CX0 1 f fd ["world", "way", "moment", "origins"] spBears := by
  refine F.ok sc_bears (fun vs H Q E h => ?_) (fun cdv A outer s H vs Q E hr h => ?_)
  · obtain ⟨p, n, m, ss, ws, i, r, k, pp, kp, ph, wt, po, os, rfl, _⟩ := h
    rfl
  · obtain ⟨p, n, m, ss, ws, i, r, k, pp, kp, ph, wt, po, os, rfl, W, hi, hr', ho, o0, q⟩ := h
    obtain ⟨⟨pk, ps, pw, hp, _, hw⟩, n1⟩ := id W
    refine ⟨_, (pss_cons (ps_asg (pe_ix ix_tup (pe_ix ix_tup (pv 0) pe_int (fun _ _ => rfl)) (pv 1) (fun _ _ => rfl)) (pg_tup (by rfl) (pgs_cons (pg_name (i := 4) sc_bears.nd rfl (.inl rfl)) (pgs_cons (pg_name (i := 5) sc_bears.nd rfl (.inl rfl)) (pgs_cons (pg_name (i := 6) sc_bears.nd rfl (.inl rfl)) (pgs_cons (pg_name (i := 7) sc_bears.nd rfl (.inl rfl)) (pgs_cons (pg_name (i := 8) sc_bears.nd rfl (.inl rfl)) pgs_nil)))))))
  (pss_cons (ps_set (i := 9) sc_bears.nd rfl (.inl rfl) (pe_ifExp (pt_cmpR op_eq (pv 6) pe_str (nomark _)) (pe_callB (cr_minT rfl hr.units) (by rfl) m_min (by decide +kernel) (pa_cons (pv 3) pa_nil)) (pe_callB (cr_maxT rfl hr.units) (by rfl) m_max (by decide +kernel) (pa_cons (pv 3) pa_nil))))
  (pss_one (ps_ret (pe_tupL (pa_cons (pv 9) (pa_cons (pe_op op_addL (pv 2) (pv 8)) pa_nil))))))), ?_⟩
    refine ⟨.ref p, rfl, p, _, 3, _, rfl, rfl, SqT.of hp, rfl, .int i, rfl, pw, ws, i, _, rfl, rfl, SqT.of hw, atN hi, r, _, rfl, SqT.of hr', rfl, _, _, rfl, _, _, rfl, _, _, rfl, _, _, rfl, _, _, rfl, rfl, ?_⟩
    refine ⟨.str kp, rfl, rfl, _, rfl, ite2 (fun e => ?_) (fun e => ?_)⟩
    · have e : kp = "oldest" := V.str.inj (of_decide_eq_true e)
      refine ⟨.ref po, rfl, po, os, rfl, SqT.of ho, o0, fun o om hm => ?_⟩
      refine ⟨.int o, rfl, .int m, rfl, .int wt, rfl, m, wt, rfl, rfl, fun bn ebn => ⟨sz (n := 2) (by decide), fun t H' nt eH' => ?_⟩⟩
      exact q o bn t H' ⟨om, fun _ => hm, fun x => absurd e x⟩ ebn nt eH'
    · have e : ¬ kp = "oldest" := fun x => e (decide_eq_true (by rw [x]))
      refine ⟨.ref po, rfl, po, os, rfl, SqT.of ho, o0, fun o om hm => ?_⟩
      refine ⟨.int o, rfl, .int m, rfl, .int wt, rfl, m, wt, rfl, rfl, fun bn ebn => ⟨sz (n := 2) (by decide), fun t H' nt eH' => ?_⟩⟩
      exact q o bn t H' ⟨om, fun x => absurd x e, fun _ => hm⟩ ebn nt eH'
end
end Rt
namespace Rt
open PySem PySem.Spec PyProof.Rows L2
/-- two values that are the same data, to a depth -/
def Sm : Nat → Hp → V → V → Prop
  | 0, _, _, _ => False
  | d + 1, H, x, y => (flatV x = true ∧ x = y) ∨ ∃ p q xs ys, x = .ref p ∧ y = .ref q ∧ H p = some (.tup xs) ∧ H q = some (.tup ys) ∧ xs.length = ys.length ∧ xs.length ≤ 1000 ∧ ∀ (i : Nat) a b, xs[i]? = some a → ys[i]? = some b → Sm d H a b
theorem Sm.mono {H H' : Hp} (t : Tk H H') : ∀ {d : Nat} {x y : V}, Sm d H x y → Sm d H' x y
  | 0, _, _, h => h.elim
  | d + 1, x, y, h => by
    rcases h with h | ⟨p, q, xs, ys, e1, e2, h1, h2, el, em, h⟩
    · exact .inl h
    · exact .inr ⟨p, q, xs, ys, e1, e2, t _ _ h1, t _ _ h2, el, em, fun i a b ha hb => (h i a b ha hb).mono t⟩
theorem Sm.flat {H : Hp} {d : Nat} {x : V} (h : flatV x = true) : Sm (d + 1) H x x := .inl ⟨h, rfl⟩
theorem same_tk {H H' : Hp} (s : Same H H') : Tk H H' := fun p xs e => s p _ e
theorem isi {K : PySem.W.Frag} {H : Hp} {x : V} {a b : String} {r : Bool} {Q : VK} (h : TyOf K H x (.type a)) (k : kitB a b = some r) (q : Q (.bl r) H) : rIsi K [x, .ty b] H Q := ⟨x, .ty b, .type a, .type b, r, rfl, .ty _, .base h, kit_ty k, q⟩
theorem walk_zipT {K : PySem.W.Frag} {a b : Addr} {xs ys : List V} (hn : xs.length = ys.length) : Walk (RZ.ItzT K a b) xs.length (fun H => SqT K H a xs ∧ SqT K H b ys) (YPair (fun i => xs[i]?) (fun i => ys[i]?)) := by
  refine ⟨fun i H hi z => ?_, fun H z => ⟨xs, ys, z.1, z.2, .inl (Nat.le_refl _)⟩, fun i H v H' hi z y => ?_⟩
  · have h2 : i < ys.length := by omega
    exact ⟨xs, ys, xs[i], ys[i], z.1, z.2, by simp [hi], by simp [h2]⟩
  · obtain ⟨T, x, u, h1, h2, h3, h4, h5⟩ := y
    exact ⟨T, x, u, h1, h2, h3, h4 xs z.1, h5 ys z.2⟩
section
variable {P : Program} {w : World} {K : PySem.W.Frag} {mg : Str → Option Value} {base : Heap}
def spAlike (d : Nat) : Sp := fun vs H Q _ => ∃ x y, vs = [x, y] ∧ Sm d H x y ∧ ∀ H', Same H H' → Q (.bl true) H'
theorem ok_alike {f : Addr} {fd : FuncData} (F : Fun K "_law_alike" "_law_alike" s_law_alike f fd) (bb : Binds K fd ["_law_one_here", "_law_other"] []) (gg : mg "_law_alike" = some (.ref f)) (m_len : mg "len" = none) (m_isinstance : mg "isinstance" = none) (m_tuple : mg "tuple" = none) (m_bool : mg "bool" = none) (m_int : mg "int" = none) (m_str : mg "str" = none) (m_all : mg "all" = none) (m_zip : mg "zip" = none) :
    ∀ d : Nat, FnOk P w K mg base CX0 (d + 1) f fd ["_law_one_here", "_law_other"] (spAlike d)
  | 0 => F.ok sc_law_alike (fun vs H Q E h => by obtain ⟨x, y, _, h, _⟩ := h; exact h.elim) (fun cdv A outer s H vs Q E hr h => by obtain ⟨x, y, _, h, _⟩ := h; exact h.elim)
  | d + 1 => by
    have C__law_alike : Cl P w K mg base (d + 1) "_law_alike" ["_law_one_here", "_law_other"] (spAlike d) := ⟨f, fd, ok_alike F bb gg m_len m_isinstance m_tuple m_bool m_int m_str m_all m_zip d, gg, F.kp, bb⟩
    refine F.ok sc_law_alike (fun vs H Q E h => ?_) (fun cdv A outer s H vs Q E hr h => ?_)
    · obtain ⟨x, y, rfl, _⟩ := h
      rfl
    · obtain ⟨x, y, rfl, hS, q⟩ := h
      refine ⟨_, (pss_cons (ps_if (PW.pt (pw_and (pt_val (pe_callB call_isi (by rfl) m_isinstance (by decide +kernel) (pa_cons (pv 0) (pa_cons (pe_bltn (v := .ty "tuple") (by rfl) m_tuple (by decide +kernel) rfl) pa_nil)))) (pw_and1 (pt_val (pe_callB call_isi (by rfl) m_isinstance (by decide +kernel) (pa_cons (pv 1) (pa_cons (pe_bltn (v := .ty "tuple") (by rfl) m_tuple (by decide +kernel) rfl) pa_nil)))))))
    (pss_one (ps_ret (pe_and (pe_cmpR op_eq (pe_callB call_len (by rfl) m_len (by decide +kernel) (pa_cons (pv 0) pa_nil)) (pe_callB call_len (by rfl) m_len (by decide +kernel) (pa_cons (pv 1) pa_nil)) (nomark _)) (pe_one (pe_callB (cr_all rfl) (by rfl) m_all (by decide +kernel) (pa_cons (pe_lc (own := [("_law_a", 2), ("_law_b", 3)]) (g := (gTup K 2 (gCons (gName 2) (gCons (gName 3) gNil)))) (tt := tYes) rfl sc_law_alike.nd (RZ.pi_zipA (by rfl) m_zip (pa_cons (pv 0) (pa_cons (pv 1) pa_nil))) (blkOk_by (own := [("_law_a", 2), ("_law_b", 3)]) (N := ["_law_one_here", "_law_other", "_law_a", "_law_b"]) (sc := defScope s_law_alike) (by decide +kernel)) (fun _ _ _ _ _ => (pg_tup (by rfl) (pgs_cons (pg_name (i := 2) sc_law_alike.nd rfl (.inl rfl)) (pgs_cons (pg_name (i := 3) sc_law_alike.nd rfl (.inl rfl)) pgs_nil)))) (fun _ _ _ _ _ => pts_nil) (fun _ _ _ _ _ => (pe_cl C__law_alike (hr.mono (by omega)) (by rfl) (pa_cons (pv 2) (pa_cons (pv 3) pa_nil))))) pa_nil))))))
    pss_nil)
  (pss_cons (ps_if (PW.pt (pw_or (pt_val (pe_callB call_isi (by rfl) m_isinstance (by decide +kernel) (pa_cons (pv 0) (pa_cons (pe_bltn (v := .ty "bool") (by rfl) m_bool (by decide +kernel) rfl) pa_nil)))) (pw_or1 (pt_val (pe_callB call_isi (by rfl) m_isinstance (by decide +kernel) (pa_cons (pv 1) (pa_cons (pe_bltn (v := .ty "bool") (by rfl) m_bool (by decide +kernel) rfl) pa_nil)))))))
    (pss_one (ps_ret (pe_and (pe_callB call_isi (by rfl) m_isinstance (by decide +kernel) (pa_cons (pv 0) (pa_cons (pe_bltn (v := .ty "bool") (by rfl) m_bool (by decide +kernel) rfl) pa_nil))) (pe_and (pe_callB call_isi (by rfl) m_isinstance (by decide +kernel) (pa_cons (pv 1) (pa_cons (pe_bltn (v := .ty "bool") (by rfl) m_bool (by decide +kernel) rfl) pa_nil))) (pe_one (pe_cmpR op_eq (pv 0) (pv 1) (nomark _)))))))
    pss_nil)
  (pss_cons (ps_if (pt_cmpR op_ne (pe_callB call_isi (by rfl) m_isinstance (by decide +kernel) (pa_cons (pv 0) (pa_cons (pe_bltn (v := .ty "int") (by rfl) m_int (by decide +kernel) rfl) pa_nil))) (pe_callB call_isi (by rfl) m_isinstance (by decide +kernel) (pa_cons (pv 1) (pa_cons (pe_bltn (v := .ty "int") (by rfl) m_int (by decide +kernel) rfl) pa_nil))) (nomark _))
    (pss_one (ps_ret pe_bl))
    pss_nil)
  (pss_one (ps_ret (pe_and (pe_cmpR op_eq (pe_callB call_isi (by rfl) m_isinstance (by decide +kernel) (pa_cons (pv 0) (pa_cons (pe_bltn (v := .ty "str") (by rfl) m_str (by decide +kernel) rfl) pa_nil))) (pe_callB call_isi (by rfl) m_isinstance (by decide +kernel) (pa_cons (pv 1) (pa_cons (pe_bltn (v := .ty "str") (by rfl) m_str (by decide +kernel) rfl) pa_nil))) (nomark _)) (pe_one (pe_cmpR op_eq (pv 0) (pv 1) (nomark _))))))))), ?_⟩
      rcases hS with ⟨hf, rfl⟩ | ⟨p, r, xs, ys, rfl, rfl, hp, hr', el, em, hi⟩
      · cases x with
        | non =>
          refine ⟨.non, rfl, _, _, .type "NoneType", .type "tuple", false, rfl, .ty _, .base .non, kit_ty (by decide +kernel), _, rfl, ?_⟩
          refine ⟨.non, rfl, _, _, .type "NoneType", .type "bool", false, rfl, .ty _, .base .non, kit_ty (by decide +kernel), _, rfl, .non, rfl, _, _, .type "NoneType", .type "bool", false, rfl, .ty _, .base .non, kit_ty (by decide +kernel), _, rfl, ?_⟩
          refine ⟨.non, rfl, _, _, .type "NoneType", .type "int", false, rfl, .ty _, .base .non, kit_ty (by decide +kernel), .non, rfl, _, _, .type "NoneType", .type "int", false, rfl, .ty _, .base .non, kit_ty (by decide +kernel), rfl, _, rfl, ?_⟩
          refine ⟨.non, rfl, _, _, .type "NoneType", .type "str", false, rfl, .ty _, .base .non, kit_ty (by decide +kernel), .non, rfl, _, _, .type "NoneType", .type "str", false, rfl, .ty _, .base .non, kit_ty (by decide +kernel), rfl, _, rfl, .non, rfl, .non, rfl, rfl, ?_⟩
          rw [decide_eq_true rfl]
          exact q _ (Same.refl _)
        | int i =>
          refine ⟨.int i, rfl, _, _, .type "int", .type "tuple", false, rfl, .ty _, .base (.int i), kit_ty (by decide +kernel), _, rfl, ?_⟩
          refine ⟨.int i, rfl, _, _, .type "int", .type "bool", false, rfl, .ty _, .base (.int i), kit_ty (by decide +kernel), _, rfl, .int i, rfl, _, _, .type "int", .type "bool", false, rfl, .ty _, .base (.int i), kit_ty (by decide +kernel), _, rfl, ?_⟩
          refine ⟨.int i, rfl, _, _, .type "int", .type "int", true, rfl, .ty _, .base (.int i), kit_ty (by decide +kernel), .int i, rfl, _, _, .type "int", .type "int", true, rfl, .ty _, .base (.int i), kit_ty (by decide +kernel), rfl, _, rfl, ?_⟩
          refine ⟨.int i, rfl, _, _, .type "int", .type "str", false, rfl, .ty _, .base (.int i), kit_ty (by decide +kernel), .int i, rfl, _, _, .type "int", .type "str", false, rfl, .ty _, .base (.int i), kit_ty (by decide +kernel), rfl, _, rfl, .int i, rfl, .int i, rfl, rfl, ?_⟩
          rw [decide_eq_true rfl]
          exact q _ (Same.refl _)
        | str z =>
          refine ⟨.str z, rfl, _, _, .type "str", .type "tuple", false, rfl, .ty _, .base (.str z), kit_ty (by decide +kernel), _, rfl, ?_⟩
          refine ⟨.str z, rfl, _, _, .type "str", .type "bool", false, rfl, .ty _, .base (.str z), kit_ty (by decide +kernel), _, rfl, .str z, rfl, _, _, .type "str", .type "bool", false, rfl, .ty _, .base (.str z), kit_ty (by decide +kernel), _, rfl, ?_⟩
          refine ⟨.str z, rfl, _, _, .type "str", .type "int", false, rfl, .ty _, .base (.str z), kit_ty (by decide +kernel), .str z, rfl, _, _, .type "str", .type "int", false, rfl, .ty _, .base (.str z), kit_ty (by decide +kernel), rfl, _, rfl, ?_⟩
          refine ⟨.str z, rfl, _, _, .type "str", .type "str", true, rfl, .ty _, .base (.str z), kit_ty (by decide +kernel), .str z, rfl, _, _, .type "str", .type "str", true, rfl, .ty _, .base (.str z), kit_ty (by decide +kernel), rfl, _, rfl, .str z, rfl, .str z, rfl, rfl, ?_⟩
          rw [decide_eq_true rfl]
          exact q _ (Same.refl _)
        | bl b =>
          refine ⟨.bl b, rfl, _, _, .type "bool", .type "tuple", false, rfl, .ty _, .base (.bl b), kit_ty (by decide +kernel), _, rfl, ?_⟩
          refine ⟨.bl b, rfl, _, _, .type "bool", .type "bool", true, rfl, .ty _, .base (.bl b), kit_ty (by decide +kernel), _, rfl, ?_⟩
          refine ⟨.bl b, rfl, _, _, .type "bool", .type "bool", true, rfl, .ty _, .base (.bl b), kit_ty (by decide +kernel), _, rfl, .bl b, rfl, _, _, .type "bool", .type "bool", true, rfl, .ty _, .base (.bl b), kit_ty (by decide +kernel), _, rfl, .bl b, rfl, .bl b, rfl, rfl, ?_⟩
          rw [decide_eq_true rfl]
          exact q _ (Same.refl _)
        | _ => cases hf
      · refine ⟨.ref p, rfl, _, _, .type "tuple", .type "tuple", true, rfl, .ty _, .base (.tup hp), kit_ty (by decide +kernel), _, rfl, .ref r, rfl, _, _, .type "tuple", .type "tuple", true, rfl, .ty _, .base (.tup hr'), kit_ty (by decide +kernel), _, rfl, ?_⟩
        refine ⟨.ref p, rfl, .ref p, xs.length, rfl, .inr ⟨_, SqT.of hp, rfl⟩, .ref r, rfl, .ref r, xs.length, rfl, .inr ⟨_, SqT.of hr', el⟩, rfl, _, rfl, ite2 (fun _ => ?_) (fun e => absurd (decide_eq_true rfl) e)⟩
        refine ⟨.ref p, rfl, .ref r, rfl, p, r, xs, ys, rfl, .inr ⟨SqT.of hp, SqT.of hr', fun D nD => ?_⟩⟩
        refine lc_it (walk_zipT el) (fun i H' => Same H H' ∧ H' D = some (.lst ((List.replicate i true).map V.bl))) ⟨sm_new nD, upd_same⟩ (fun i H' _ h => ⟨SqT.of (h.1 _ _ hp), SqT.of (h.1 _ _ hr')⟩) (fun i v H1 H2 hi1 h hY => ?_) (fun H1 h => ?_)
        · obtain ⟨sm, eD⟩ := h
          obtain ⟨T, a, b, rfl, nT, rfl, ha, hb⟩ := hY
          refine ⟨T, _, rfl, SqT.of upd_same, rfl, _, _, rfl, _, _, rfl, rfl, rfl, ?_⟩
          have sm2 : Same H1 (upd H1 T (.tup [a, b])) := sm_new nT
          refine ⟨a, rfl, b, rfl, a, b, rfl, (hi i a b ha hb).mono (same_tk (sm.trans sm2)), fun H3 sm3 => ⟨_, sm3 _ _ (sm2 _ _ eD), ?_, ?_, ?_⟩⟩
          · rw [List.length_map, List.length_replicate]
            exact szl (by omega)
          · exact sm_mut ((sm.trans sm2).trans sm3) nD
          · rw [upd_same, List.replicate_succ']
            simp
        · refine ⟨D, List.replicate xs.length true, rfl, SqL.of h.2, ?_⟩
          have e : (List.replicate xs.length true).all id = true := by simp
          rw [e]
          exact q _ h.1
theorem Sm.pair {H : Hp} {d : Nat} {p q : Addr} {a b : V} (hp : H p = some (.tup [a, b])) (hq : H q = some (.tup [a, b])) (ha : flatV a = true) (hb : flatV b = true) : Sm (d + 2) H (.ref p) (.ref q) := by
  refine .inr ⟨p, q, _, _, rfl, rfl, hp, hq, rfl, (show 2 ≤ 1000 by decide), fun i x y hx hy => ?_⟩
  have e : x = y := Option.some.inj (hx.symm.trans hy)
  subst e
  match i, hx with
  | 0, hx => cases hx; exact Sm.flat ha
  | 1, hx => cases hx; exact Sm.flat hb
end
end Rt
namespace Rt
open PySem PySem.Spec PyProof.Rows L2
/-- a test that is answered so, the heap as it was -/
def An (t : TT) (σ : L2.St) (H : Hp) (b : Bool) : Prop := ∀ Q : Bool → Hp → Prop, Q b H → t σ H Q
theorem ifF {t : TT} {a b : TS} {D : Ends} {σ : L2.St} {H : Hp} (h : An t σ H false) (q : b D σ H) : tIfS t a b D σ H := h _ q
theorem Fu.same {g : Gd} {B : Nat} {H H' : Hp} (f : Fu g B H) (s : Same H H') : Fu g B H' := by
  obtain ⟨t, a, b⟩ := f
  obtain ⟨cs, hc, ec⟩ := a.hc
  obtain ⟨rs, hr, er⟩ := a.hr
  exact ⟨t, ⟨s _ _ a.hd, ⟨cs, s _ _ hc, ec⟩, ⟨rs, s _ _ hr, er⟩, a.dc, a.dr, a.cr, a.n0, a.n63, a.t0⟩, b⟩
theorem Kp.same {g : Gd} {H H' : Hp} (s : Same H H') : Kp g H H' := fun p o _ _ h => s p o h
/-- a comprehension over a range that draws nothing and counts -/
theorem lcC {lo : Int} {n : Nat} {gt : TG} {tt : TT} {te : TE} {vs : List Nat} {σ : L2.St} {H1 : Hp} {D : Addr} {Qd : Hp → Prop} (c : Nat → Bool) (hD : H1 D = none) (hn : n ≤ 1000)
    (hs : ∀ i H, i < n → Same H1 H → ∀ (Qk : VK) (Qs : Hp → Prop), (c i = true → ∀ y, Qk y H) → (c i = false → Qs H) →
      gt (.int (lo + i)) (wipe σ vs) H fun σ2 H2 => wipe σ2 vs = wipe σ vs ∧ tt σ2 H2 fun b H3 => if b = true then te σ2 H3 Qk else Qs H3)
    (hd : ∀ H acc, Same H1 H → H D = some (.lst acc) → acc.length = (List.range n).countP c → Qd H) :
    ∃ W : Nat → Nat → Hp → Prop, (∃ m, W 0 m (upd H1 D (.lst []))) ∧ ∀ i m H, W i m H →
      ((Itr lo n).stop i H ∧ Qd H) ∨ ((Itr lo n).go i H ∧ ∃ Nx : Hp → Prop, (∀ H', Nx H' → ∃ m', m' < m ∧ W (i + 1) m' H') ∧ ∀ x H', (Itr lo n).yld i H x H' → gt x (wipe σ vs) H' fun σ2 H2 => wipe σ2 vs = wipe σ vs ∧ tt σ2 H2 fun b H3 =>
        if b = true then te σ2 H3 fun y H4 => ∃ acc, H4 D = some (.lst acc) ∧ acc.length < sizeLine ∧ Nx (upd H4 D (.lst (acc ++ [y]))) else Nx H3) := by
  refine lc_range (Pv := fun i H => i ≤ n ∧ Same H1 H ∧ ∃ acc, H D = some (.lst acc) ∧ acc.length = (List.range i).countP c) ⟨Nat.zero_le _, sm_new hD, [], upd_same, rfl⟩ (fun i H hi p => ?_) (fun H p => ?_)
  · obtain ⟨_, sm, acc, eD, el⟩ := p
    have hl : (List.range i).countP c ≤ i := by
      have := List.countP_le_length (p := c) (l := List.range i)
      rwa [List.length_range] at this
    refine hs i H hi sm _ _ (fun e y => ⟨acc, eD, szl (by omega), hi, sm_mut sm hD, acc ++ [y], upd_same, ?_⟩) (fun e => ⟨hi, sm, acc, eD, ?_⟩)
    · rw [List.range_succ, List.countP_append, List.countP_singleton, if_pos e, List.length_append, el]
      rfl
    · rw [List.range_succ, List.countP_append, List.countP_singleton, if_neg (by rw [e]; decide), el]
      rfl
  · obtain ⟨_, sm, acc, eD, el⟩ := p
    exact hd H acc sm eD el
theorem src_at {n : Int} {ks : List Str} {H : Hp} {ss : List V} (sa : ∀ x ∈ ss, IsSrc n ks H x) {i : Nat} (hi : i < ss.length) : ∃ (r : Addr) (k : Str) (a pl s m : Int), ss[i]? = some (.ref r) ∧ H r = some (.tup [.str k, .int a, .int pl, .int s, .int m]) ∧ 0 ≤ pl ∧ pl < n ∧ 0 ≤ s ∧ s ≤ 1000000 := by
  obtain ⟨r, k, a, pl, s, m, e, hr, _, _, _, h1, h2, h3, h4, _, _⟩ := sa _ (List.getElem_mem hi)
  exact ⟨r, k, a, pl, s, m, by rw [List.getElem?_eq_getElem hi, e], hr, h1, h2, h3, h4⟩
/-- a test that is answered so, all that stood stands -/
def AnS (t : TT) (σ : L2.St) (H : Hp) (b : Bool) : Prop := ∀ Q : Bool → Hp → Prop, (∀ H', Same H H' → Q b H') → t σ H Q
theorem ifFS {t : TT} {a b : TS} {D : Ends} {σ : L2.St} {H : Hp} (h : AnS t σ H false) (q : ∀ H', Same H H' → b D σ H') : tIfS t a b D σ H := h _ q
theorem way_at {n : Int} {ks : List Str} {H : Hp} {ws : List V} (wa : ∀ x ∈ ws, IsWay n ks H x) {i : Nat} (hi : i < ws.length) : ∃ (r : Addr) (k : Str) (pp : Addr) (ps : List V) (kp : Str) (ph : Addr) (hs : List Int) (wt : Int), ws[i]? = some (.ref r) ∧ H r = some (.tup [.str k, .ref pp, .str kp, .ref ph, .int wt]) ∧
    H pp = some (.tup ps) ∧ 1 ≤ ps.length ∧ ps.length ≤ 3 ∧ H ph = some (.tup (hs.map V.int)) ∧ hs.Pairwise (· < ·) ∧ (∀ h ∈ hs, 0 ≤ h ∧ h < n) := by
  obtain ⟨r, k, pp, ps, kp, ph, hs, wt, e, hr, _, h1, h2, h3, _, _, h4, h5, h6, _, _⟩ := wa _ (List.getElem_mem hi)
  exact ⟨r, k, pp, ps, kp, ph, hs, wt, by rw [List.getElem?_eq_getElem hi, e], hr, h1, h2, h3, h4, h5, h6⟩
theorem best_add {kp : Str} {os : List Int} {o o' d : Int} (h : Best kp os o) (h' : Best kp (os.map (· + d)) o') : o' = o + d := by
  obtain ⟨m, a, b⟩ := h
  obtain ⟨m', a', b'⟩ := h'
  obtain ⟨x, xm, ex⟩ := List.mem_map.mp m'
  have mo : o + d ∈ os.map (· + d) := List.mem_map.mpr ⟨o, m, rfl⟩
  by_cases e : kp = "oldest"
  · have h1 := a e x xm
    have h2 := a' e _ mo
    omega
  · have h1 := b e x xm
    have h2 := b' e _ mo
    omega
theorem best_rev {kp : Str} {os : List Int} {o o' : Int} (h : Best kp os o) (h' : Best kp os.reverse o') : o' = o := by
  obtain ⟨m, a, b⟩ := h
  obtain ⟨m', a', b'⟩ := h'
  have m2 := List.mem_reverse.mp m'
  have m3 := List.mem_reverse.mpr m
  by_cases e : kp = "oldest"
  · have h1 := a e _ m2
    have h2 := a' e _ m3
    omega
  · have h1 := b e _ m2
    have h2 := b' e _ m3
    omega
/-- a value that is told so, the heap as it was -/
def Va (t : TE) (σ : L2.St) (H : Hp) (v : V) : Prop := ∀ Q : VK, Q v H → t σ H Q
theorem asgV {t : TE} {g : TG} {D : Ends} {σ : L2.St} {H : Hp} (v : V) (h : Va t σ H v) (q : g v σ H D.nx) : tAsg t g D σ H := h _ q
def spLaw (K : PySem.W.Frag) : Sp := fun vs H Q _ => ∃ (a : Addr) (ns : List Int), vs = [.ref a] ∧ SqL K H a (ns.map V.int) ∧ ns.length ≤ 63 ∧ ∀ H', Q (.bl true) H'
end Rt
namespace Rt
open PySem PySem.Spec PyProof.Rows L2
theorem sorted_head {ns os : List Int} (p : ns.Perm os) (s : ns.Pairwise (· ≤ ·)) (h0 : 0 < os.length) : ∃ a : Int, atI (ns.map V.int) 0 = some (.int a) ∧ a ∈ os ∧ ∀ y ∈ os, a ≤ y := by
  cases ns with
  | nil => have := p.length_eq; simp at this; omega
  | cons a r =>
    refine ⟨a, atI_nat (j := 0) rfl, p.mem_iff.mp List.mem_cons_self, fun y hy => ?_⟩
    rcases List.mem_cons.mp (p.mem_iff.mpr hy) with e | e
    · rw [e]; exact Int.le_refl _
    · exact (List.pairwise_cons.mp s).1 y e
theorem sorted_last {ns os : List Int} (p : ns.Perm os) (s : ns.Pairwise (· ≤ ·)) (h0 : 0 < os.length) : ∃ a : Int, atI (ns.map V.int) (-1) = some (.int a) ∧ a ∈ os ∧ ∀ y ∈ os, y ≤ a := by
  have hn : ns ≠ [] := fun e => by
    subst e
    have := p.length_eq
    simp at this
    omega
  obtain ⟨d, z, rfl⟩ : ∃ d z, ns = d ++ [z] := ⟨_, _, (List.dropLast_concat_getLast hn).symm⟩
  refine ⟨z, ?_, p.mem_iff.mp (by simp), fun y hy => ?_⟩
  · rw [List.map_append]
    exact atI_last (d.map V.int) (V.int z)
  · rcases List.mem_append.mp (p.mem_iff.mpr hy) with h | h
    · exact (List.pairwise_append.mp s).2.2 y h _ (by simp)
    · have : y = z := by simpa using h
      omega
section
variable {P : Program} {w : World} {K : PySem.W.Frag} {mg : Str → Option Value} {base : Heap}
def spIs : Sp := fun vs H Q _ => ∃ x lo hi : Int, vs = [.int x, .int lo, .int hi] ∧ ∀ b : Bool, b = decide (lo ≤ x ∧ x ≤ hi) → Q (.bl b) H
theorem ok_is {f : Addr} {fd : FuncData} (F : Fun K "_law_is" "_law_is" s_law_is f fd) (m_isinstance : mg "isinstance" = none) (m_int : mg "int" = none) (m_bool : mg "bool" = none) : FnOk P w K mg base CX0 1 f fd ["_law_thing", "_law_low", "_law_high"] spIs := by
  refine F.ok sc_law_is (fun vs H Q E h => ?_) (fun cdv A outer s H vs Q E hr h => ?_)
  · obtain ⟨x, lo, hi, rfl, _⟩ := h
    rfl
  · obtain ⟨x, lo, hi, rfl, q⟩ := h
    refine ⟨_, (pss_one (ps_ret (pe_and (pe_callB call_isi (by rfl) m_isinstance (by decide +kernel) (pa_cons (pv 0) (pa_cons (pe_bltn (v := .ty "int") (by rfl) m_int (by decide +kernel) rfl) pa_nil))) (pe_and (pe_not (pe_callB call_isi (by rfl) m_isinstance (by decide +kernel) (pa_cons (pv 0) (pa_cons (pe_bltn (v := .ty "bool") (by rfl) m_bool (by decide +kernel) rfl) pa_nil)))) (pe_one (pe_chain op_le op_le (pv 1) (pv 0) (pv 2))))))), ?_⟩
    refine ⟨.int x, rfl, _, _, .type "int", .type "int", true, rfl, .ty _, .base (.int x), kit_ty (by decide +kernel), _, rfl, ?_⟩
    refine ⟨.int x, rfl, _, _, .type "int", .type "bool", false, rfl, .ty _, .base (.int x), kit_ty (by decide +kernel), _, rfl, _, rfl, ?_⟩
    refine ⟨.int lo, rfl, .int x, rfl, lo, x, rfl, rfl, _, rfl, ite2 (fun e => ?_) (fun e => ?_)⟩
    · refine ⟨.int hi, rfl, x, hi, rfl, rfl, q _ ?_⟩
      have e : lo ≤ x := of_decide_eq_true e
      simp [e]
    · refine q _ ?_
      rw [decide_eq_false (fun z => e (decide_eq_true z.1))]
def spSrcR : Sp := fun vs H Q _ => ∃ (g : Gd) (B : Nat) (p : Addr) (n : Int) (pk : Addr) (ks : List Str) (ps : Addr) (ss : List V) (pw : Addr) (ws : List V) (i : Nat), vs = [.ref g.d, .ref p, .int i] ∧ Fu g B H ∧ 2 ≤ B ∧ IsWorld H p n pk ks ps ss pw ws ∧ i < ss.length ∧
  ∀ H', Fu g (B - 2) H' → Kp g H H' → Q (.bl true) H'
theorem ok_srcr {f : Addr} {fd : FuncData} (F : Fun K "_law_source_right" "_law_source_right" s_law_source_right f fd) (m_range : mg "range" = none) (m_max : mg "max" = none)
    (C__law_next : Cl P w K mg base 1 "_law_next" ["_law_drawn", "_law_below"] spNext) (C__law_alike : Cl P w K mg base 3 "_law_alike" ["_law_one_here", "_law_other"] (spAlike 2)) (C__law_is : Cl P w K mg base 1 "_law_is" ["_law_thing", "_law_low", "_law_high"] spIs)
    (C_brings : Cl P w K mg base 2 "brings" ["world", "source", "moment"] spBrings) (C_first_of : Cl P w K mg base 2 "first_of" ["world", "source"] spFirst) :
    FnOk P w K mg base CX0 4 f fd ["_law_drawn", "_law_world_here", "_law_number"] spSrcR := by
  refine F.ok sc_law_source_right (fun vs H Q E h => ?_) (fun cdv A outer s H vs Q E hr h => ?_)
  · obtain ⟨g, B, p, n, pk, ks, ps, ss, pw, ws, i, rfl, _⟩ := h
    rfl
  · obtain ⟨g, B, p, n, pk, ks, ps, ss, pw, ws, i, rfl, hF, hB, W, hi, q⟩ := h
    have n1 := W.n1
    have n6 := W.n6
    obtain ⟨r, k, a, pl, sn, mm, hss, hr1, p0, p1, s0, s1⟩ := src_at W.sa hi
    refine ⟨_, (pss_cons (ps_asg (pe_ix ix_tup (pe_ix ix_tup (pv 1) pe_int (fun _ _ => rfl)) (pv 2) (fun _ _ => rfl)) (pg_tup (by rfl) (pgs_cons (pg_name (i := 3) sc_law_source_right.nd rfl (.inl rfl)) (pgs_cons (pg_name (i := 4) sc_law_source_right.nd rfl (.inl rfl)) (pgs_cons (pg_name (i := 5) sc_law_source_right.nd rfl (.inl rfl)) (pgs_cons (pg_name (i := 6) sc_law_source_right.nd rfl (.inr rfl)) (pgs_cons (pg_name (i := 7) sc_law_source_right.nd rfl (.inl rfl)) pgs_nil)))))))
  (pss_cons (ps_set (i := 8) sc_law_source_right.nd rfl (.inl rfl) (pe_cl C_first_of (hr.mono (by omega)) (by rfl) (pa_cons (pv 1) (pa_cons (pv 2) pa_nil))))
  (pss_cons (ps_if (PW.pt (pw_or (pt_not (pt_val (pe_cl C__law_is (hr.mono (by omega)) (by rfl) (pa_cons (pv 8) (pa_cons (pv 6) (pa_cons (pe_op op_subL (pe_op op_addL (pv 6) (pe_ix ix_tup (pv 1) pe_int (fun _ _ => rfl))) pe_int) pa_nil)))))) (pw_or1 (pt_cmpR op_ne (pe_op op_modL (pv 8) (pe_ix ix_tup (pv 1) pe_int (fun _ _ => rfl))) (pv 5) (nomark _)))))
    (pss_one (ps_ret pe_bl))
    pss_nil)
  (pss_cons (ps_set (i := 9) sc_law_source_right.nd rfl (.inl rfl) (pe_op op_cat (pe_lc (own := [("_law_k", 12)]) (g := (gName 12)) (tt := tYes) rfl sc_law_source_right.nd (pi_range2 (by rfl) m_range (pa_cons (pe_un un_neg pe_int) (pa_cons pe_int pa_nil))) (blkOk_by (own := [("_law_k", 12)]) (N := ["_law_drawn", "_law_world_here", "_law_number", "_law_kind", "_law_age", "_law_place", "_law_since", "_law_many", "_law_first", "_law_moments", "_law_moment", "_law_due", "_law_k"]) (sc := defScope s_law_source_right) (by decide +kernel)) (fun _ _ _ _ _ => (pg_name (i := 12) sc_law_source_right.nd rfl (.inl rfl))) (fun _ _ _ _ _ => pts_nil) (fun _ _ _ _ _ => (pe_callB (call_max2 rfl) (by rfl) m_max (by decide +kernel) (pa_cons pe_int (pa_cons (pe_op op_addL (pv 6) (pv 12)) pa_nil))))) (pe_lstL (pa_cons pe_int (pa_cons (pe_op op_powL pe_int pe_int) (pa_cons (pe_op op_subL (pe_op op_powL pe_int pe_int) (pe_cl C__law_next (hr.mono (by omega)) (by rfl) (pa_cons (pv 0) (pa_cons pe_int pa_nil)))) pa_nil))))))
  (pss_cons (ps_for PassesOwn.never rfl (pi_list (pe_op op_cat (pv 9) (pe_lstL (pa_cons (pe_op op_addL (pv 6) (pe_cl C__law_next (hr.mono (by omega)) (by rfl) (pa_cons (pv 0) (pa_cons (pe_op op_powL pe_int pe_int) pa_nil)))) pa_nil)))) (pg_name (i := 10) sc_law_source_right.nd rfl (.inl rfl))
    (pss_cons (ps_set (i := 11) sc_law_source_right.nd rfl (.inl rfl) (pe_and (pe_cmpR op_ge (pv 10) (pv 6) (nomark _)) (pe_one (pe_cmpR op_eq (pe_op op_modL (pv 10) (pe_ix ix_tup (pv 1) pe_int (fun _ _ => rfl))) (pv 5) (nomark _)))))
  (pss_one (ps_if (pt_not (pt_val (pe_cl C__law_alike (hr.mono (by omega)) (by rfl) (pa_cons (pe_cl C_brings (hr.mono (by omega)) (by rfl) (pa_cons (pv 1) (pa_cons (pv 2) (pa_cons (pv 10) pa_nil)))) (pa_cons (pv 11) pa_nil)))))
    (pss_one (ps_ret pe_bl))
    pss_nil))))
  (pss_one (ps_ret pe_bl))))))), ?_⟩
    refine ⟨.ref p, rfl, p, _, 2, _, rfl, rfl, SqT.of W.hp, rfl, .int i, rfl, ps, ss, i, _, rfl, rfl, SqT.of W.hs, atN hss, r, _, rfl, SqT.of hr1, rfl, _, _, rfl, _, _, rfl, _, _, rfl, _, _, rfl, _, _, rfl, rfl, ?_⟩
    refine ⟨.ref p, rfl, .int i, rfl, p, n, ss, ws, i, r, k, a, pl, sn, mm, rfl, W.wd, hss, hr1, fun fi efi => ?_⟩
    obtain ⟨f1, f2⟩ := first_place (s := sn) n1 n6 p0 p1
    rw [← efi] at f1 f2
    have f3 : fi ≤ sn + n - 1 := by
      have := Int.emod_lt_of_pos (pl - sn) (show 0 < n by omega)
      omega
    dsimp only [gName, tSeq, tNext]
    refine ifF (fun Q1 q1 => ?_) ?_
    · refine ⟨.int fi, rfl, .int sn, rfl, .int sn, rfl, .ref p, rfl, p, _, 0, _, rfl, rfl, SqT.of W.hp, rfl, sn, n, rfl, rfl, fun x ex => ⟨x, 1, rfl, rfl, fun y ey => ⟨fi, sn, y, rfl, fun b eb => ?_⟩⟩⟩
      obtain rfl : b = true := by rw [eb]; exact decide_eq_true ⟨f2, by omega⟩
      refine ⟨_, rfl, .int fi, rfl, .ref p, rfl, p, _, 0, _, rfl, rfl, SqT.of W.hp, rfl, fi, n, rfl, rfl, by omega, fun z ez _ _ => ⟨.int pl, rfl, rfl, _, rfl, ?_⟩⟩
      rw [f1] at ez
      rw [ez, decide_eq_true rfl]
      exact q1
    -- moments
    refine ⟨4, rfl, -4, 14, rfl, by decide, fun D nD => ?_⟩
    refine lcR (g := g) 0 (fun _ y => ∃ z : Int, y = V.int z ∧ 0 ≤ z) (fun _ _ => True) nD hF (by decide) (by omega) (fun _ _ _ _ h => h) trivial (fun j H2 B' hj F2 hB' K2 Qk Qs qk qs => ?_) (fun H2 acc F2 K2 eD el pl2 al => ?_)
    · refine ⟨rfl, .int sn, rfl, .int (-4 + j), rfl, sn, -4 + j, rfl, rfl, fun x ex => ⟨0, x, rfl, ?_⟩⟩
      exact qk _ _ F2 (Kp.refl _ _) ⟨_, rfl, by split <;> omega⟩ (fun _ _ => trivial)
    obtain ⟨ms, rfl, _⟩ := all_map al
    refine ⟨10, 15, rfl, rfl, by decide, by decide, by decide, fun z1 ez1 => ⟨10, 15, rfl, rfl, by decide, by decide, by decide, fun z2 ez2 => ⟨.ref g.d, rfl, g, _, 40, rfl, F2, by omega, by decide, by decide, fun x3 H3 x30 x31 F3 K3 => ⟨z2, x3, rfl, rfl, fun z3 ez3 => ⟨sz (n := 3) (by decide), fun p4 H4 np4 eH4 => ?_⟩⟩⟩⟩⟩
    have oD := hF.off nD
    have K4 : Kp g H3 H4 := by rw [eH4]; exact Kp.new np4
    have F4 : Fu g _ H4 := eH4 ▸ F3.new np4
    have hp4 : H4 p4 = some (.lst ([0, z1, z3].map V.int)) := by rw [eH4]; exact upd_same
    have hD4 := (K3.trans K4).off oD eD
    rw [List.length_map] at el
    have el : ms.length ≤ 18 := el
    refine ⟨D, p4, _, _, rfl, rfl, hD4, hp4, by rw [List.length_map, List.length_map]; exact sz (by show ms.length + 3 ≤ _; omega), fun p5 np5 => ?_⟩
    rw [← List.map_append]
    have F5 := F4.new (o := .lst ((ms ++ [0, z1, z3]).map V.int)) np5
    have K5 : Kp g H4 (upd H4 p5 (.lst ((ms ++ [0, z1, z3]).map V.int))) := Kp.new np5
    have hp5 : upd H4 p5 (.lst ((ms ++ [0, z1, z3]).map V.int)) p5 = some (.lst ((ms ++ [0, z1, z3]).map V.int)) := upd_same
    have oP5 := F4.off np5
    generalize upd H4 p5 (.lst ((ms ++ [0, z1, z3]).map V.int)) = H5 at F5 K5 hp5 ⊢
    generalize eL : ms ++ [0, z1, z3] = ms2 at hp5 ⊢
    have el2 : ms2.length ≤ 21 := by rw [← eL, List.length_append]; show ms.length + 3 ≤ 21; omega
    -- for moment in moments + [..]
    refine ⟨.ref p5, rfl, .int sn, rfl, .ref g.d, rfl, 10, 9, rfl, rfl, by decide, by decide, by decide, fun z6 ez6 => ⟨g, _, z6, rfl, F5, by omega, by rw [ez6]; decide, by rw [ez6]; decide, fun x6 H6 x60 x61 F6 K6 => ⟨sn, x6, rfl, rfl, fun z7 ez7 => ⟨sz (n := 1) (by decide), fun p7 H7 np7 eH7 => ?_⟩⟩⟩⟩
    have K7 : Kp g H6 H7 := by rw [eH7]; exact Kp.new np7
    have F7 : Fu g _ H7 := eH7 ▸ F6.new np7
    have hp7 : H7 p7 = some (.lst ([z7].map V.int)) := by rw [eH7]; exact upd_same
    refine ⟨p5, p7, _, _, rfl, rfl, (K6.trans K7).off oP5 hp5, hp7, by rw [List.length_map, List.length_map]; exact sz (by show ms2.length + 1 ≤ _; omega), fun p8 np8 => ?_⟩
    rw [← List.map_append]
    have F8 := F7.new (o := .lst ((ms2 ++ [z7]).map V.int)) np8
    have K8 : Kp g H7 (upd H7 p8 (.lst ((ms2 ++ [z7]).map V.int))) := Kp.new np8
    have hp8 : upd H7 p8 (.lst ((ms2 ++ [z7]).map V.int)) p8 = some (.lst ((ms2 ++ [z7]).map V.int)) := upd_same
    generalize upd H7 p8 (.lst ((ms2 ++ [z7]).map V.int)) = H8 at F8 K8 hp8 ⊢
    generalize ms2 ++ [z7] = ms3 at hp8 ⊢
    have K08 : Kp g H H8 := ((((((K2.trans K3).trans K4).trans K5).trans K6).trans K7).trans K8)
    refine ⟨p8, rfl, ⟨_, SqL.of hp8⟩, ?_⟩
    refine for_list (xs := ms3.map V.int) (fun j σ H' => Same H8 H' ∧ ∃ y3 y4 y7 y8 y9 y10 y11 y12, σ = [some (.ref g.d), some (.ref p), some (.int i), y3, y4, some (.int pl), some (.int sn), y7, y8, y9, y10, y11, y12]) ⟨Same.refl _, _, _, _, _, _, _, _, _, rfl⟩ (fun j σ H' _ h => SqL.of (h.1 _ _ hp8)) (fun j x σ H9 hx h => ?_) (fun σ H9 h => ?_)
    · obtain ⟨sm, y3, y4, y7, y8, y9, y10, y11, y12, rfl⟩ := h
      obtain ⟨m, _, rfl⟩ := List.mem_map.mp (List.mem_of_getElem? hx)
      have T9 : Tk H H9 := (hF.tk K08).trans (same_tk sm)
      have W9 := W.mono T9
      dsimp only [gName, tSeq, tNext]
      refine asgV (.bl (decide (sn ≤ m ∧ m % n = pl))) (fun Q1 q1 => ?_) ?_
      · refine ⟨.int m, rfl, .int sn, rfl, m, sn, rfl, rfl, _, rfl, ite2 (fun e => ?_) (fun e => ?_)⟩
        · have e : sn ≤ m := of_decide_eq_true e
          refine ⟨.int m, rfl, .ref p, rfl, p, _, 0, _, rfl, rfl, SqT.of W9.hp, rfl, m, n, rfl, rfl, by omega, fun z ez _ _ => ⟨.int pl, rfl, rfl, ?_⟩⟩
          rw [← ez] at q1
          by_cases h : z = pl
          · rw [decide_eq_true ⟨e, h⟩] at q1
            rw [decide_eq_true (by rw [h] : V.int z = V.int pl)]
            exact q1
          · rw [decide_eq_false (fun x => h x.2)] at q1
            rw [decide_eq_false (fun x => h (V.int.inj x))]
            exact q1
        · rw [decide_eq_false (fun x => e (decide_eq_true x.1))] at q1
          exact q1
      dsimp only [gName, tSeq, tNext]
      refine ifFS (fun Q1 q1 => ?_) (fun H10 sm10 => ⟨sm.trans sm10, _, _, _, _, _, _, _, _, rfl⟩)
      refine ⟨.ref p, rfl, .int i, rfl, .int m, rfl, p, n, m, ss, ws, i, r, k, a, pl, sn, mm, rfl, W9.wd, hss, T9 _ _ hr1, fun b eb => ?_⟩
      subst eb
      exact ⟨_, rfl, _, _, rfl, Sm.flat rfl, fun H10 sm10 => ⟨_, rfl, q1 _ sm10⟩⟩
    · exact q _ ((F8.same h.1).mono (by omega)) (K08.trans (Kp.same h.1))
end
end Rt
namespace Rt
open PySem PySem.Spec PyProof.Rows L2
theorem way_kp {n : Int} {ks : List Str} {H : Hp} {ws : List V} (wa : ∀ x ∈ ws, IsWay n ks H x) {i : Nat} {r : Addr} {k : Str} {pp : Addr} {kp : Str} {ph : Addr} {wt : Int} (h : ws[i]? = some (.ref r)) (hr : H r = some (.tup [.str k, .ref pp, .str kp, .ref ph, .int wt])) : kp = "oldest" ∨ kp = "youngest" := by
  obtain ⟨r', k', pp', ps', kp', ph', hs', wt', e, hr', _, _, _, _, _, h5, _⟩ := wa _ (List.mem_of_getElem? h)
  cases e
  rw [hr] at hr'
  cases hr'
  exact h5
theorem ne_young : ¬ ("oldest" : Str) = "youngest" := by decide +kernel
section
variable {P : Program} {w : World} {K : PySem.W.Frag} {mg : Str → Option Value} {base : Heap}
def spWayR : Sp := fun vs H Q _ => ∃ (g : Gd) (B : Nat) (p : Addr) (n : Int) (pk : Addr) (ks : List Str) (ps : Addr) (ss : List V) (pw : Addr) (ws : List V) (i : Nat), vs = [.ref g.d, .ref p, .int i] ∧ Fu g B H ∧ 52 ≤ B ∧ IsWorld H p n pk ks ps ss pw ws ∧ i < ws.length ∧
  ∀ H', Fu g (B - 52) H' → Kp g H H' → Q (.bl true) H'
theorem ok_wayr {f : Addr} {fd : FuncData} (F : Fun K "_law_way_right" "_law_way_right" s_law_way_right f fd) (m_list : mg "list" = none) (m_range : mg "range" = none) (m_tuple : mg "tuple" = none) (m_sorted : mg "sorted" = none)
    (C__law_next : Cl P w K mg base 1 "_law_next" ["_law_drawn", "_law_below"] spNext) (C__law_one : Cl P w K mg base 2 "_law_one" ["_law_drawn", "_law_wares"] (spOne K)) (C__law_alike : Cl P w K mg base 3 "_law_alike" ["_law_one_here", "_law_other"] (spAlike 2))
    (C_opens : Cl P w K mg base 2 "opens" ["world", "way", "moment"] spOpens) (C_bears : Cl P w K mg base 1 "bears" ["world", "way", "moment", "origins"] spBears) :
    FnOk P w K mg base CX0 4 f fd ["_law_drawn", "_law_world_here", "_law_number"] spWayR := by
  refine F.ok sc_law_way_right (fun vs H Q E h => ?_) (fun cdv A outer s H vs Q E hr h => ?_)
  · obtain ⟨g, B, p, n, pk, ks, ps, ss, pw, ws, i, rfl, _⟩ := h
    rfl
  · obtain ⟨g, B, p, n, pk, ks, ps, ss, pw, ws, i, rfl, hF, hB, W, hi, q⟩ := h
    have n1 := W.n1
    have n6 := W.n6
    obtain ⟨r, kk, pp, psl, kp, ph, hs, wt, hws, hr1, hpp, pl1, pl3, hph, hsp, hsa⟩ := way_at W.wa hi
    have hkp := way_kp W.wa hws hr1
    refine ⟨_, (pss_cons (ps_asg (pe_ix ix_tup (pe_ix ix_tup (pv 1) pe_int (fun _ _ => rfl)) (pv 2) (fun _ _ => rfl)) (pg_tup (by rfl) (pgs_cons (pg_name (i := 3) sc_law_way_right.nd rfl (.inl rfl)) (pgs_cons (pg_name (i := 4) sc_law_way_right.nd rfl (.inl rfl)) (pgs_cons (pg_name (i := 5) sc_law_way_right.nd rfl (.inl rfl)) (pgs_cons (pg_name (i := 6) sc_law_way_right.nd rfl (.inl rfl)) (pgs_cons (pg_name (i := 7) sc_law_way_right.nd rfl (.inl rfl)) pgs_nil)))))))
  (pss_cons (ps_set (i := 8) sc_law_way_right.nd rfl (.inl rfl) (pe_cl C__law_next (hr.mono (by omega)) (by rfl) (pa_cons (pv 0) (pa_cons (pe_op op_powL pe_int pe_int) pa_nil))))
  (pss_cons (ps_for PassesOwn.never rfl (pi_list (pe_op op_cat (pe_listRg rfl (by rfl) m_list (prg_1 (by rfl) m_range pe_int)) (pe_lstL (pa_cons (pv 8) (pa_cons (pe_op op_powL pe_int pe_int) (pa_cons (pe_op op_subL (pe_op op_powL pe_int pe_int) (pe_cl C__law_next (hr.mono (by omega)) (by rfl) (pa_cons (pv 0) (pa_cons pe_int pa_nil)))) pa_nil)))))) (pg_name (i := 9) sc_law_way_right.nd rfl (.inl rfl))
    (pss_cons (ps_if (pt_not (pt_val (pe_cl C__law_alike (hr.mono (by omega)) (by rfl) (pa_cons (pe_cl C_opens (hr.mono (by omega)) (by rfl) (pa_cons (pv 1) (pa_cons (pv 2) (pa_cons (pv 9) pa_nil)))) (pa_cons (pe_cmpR op_in_seq (pe_op op_modL (pv 9) (pe_ix ix_tup (pv 1) pe_int (fun _ _ => rfl))) (pv 6) (by rfl)) pa_nil)))))
    (pss_one (ps_ret pe_bl))
    pss_nil)
  (pss_cons (ps_set (i := 10) sc_law_way_right.nd rfl (.inr rfl) (pe_lstL (pa_cons (pv 9) (pa_cons (pe_un un_neg pe_int) (pa_cons (pe_op op_subL (pv 9) (pe_cl C__law_next (hr.mono (by omega)) (by rfl) (pa_cons (pv 0) (pa_cons pe_int pa_nil)))) (pa_cons (pe_cl C__law_next (hr.mono (by omega)) (by rfl) (pa_cons (pv 0) (pa_cons (pe_op op_powL pe_int pe_int) pa_nil))) pa_nil))))))
  (pss_cons (ps_set (i := 11) sc_law_way_right.nd rfl (.inl rfl) (pe_callTy call_tuple_of (by rfl) m_tuple (by decide +kernel) (pa_cons (pe_lc (own := [("_law_part_here", 13)]) (g := (gName 13)) (tt := tYes) rfl sc_law_way_right.nd (pi_tup (pv 4)) (blkOk_by (own := [("_law_part_here", 13)]) (N := ["_law_drawn", "_law_world_here", "_law_number", "_law_kind", "_law_parts", "_law_keeps", "_law_hours", "_law_wait", "_law_near", "_law_moment", "_law_far", "_law_origins", "_law_due", "_law_part_here"]) (sc := defScope s_law_way_right) (by decide +kernel)) (fun _ _ _ _ _ => (pg_name (i := 13) sc_law_way_right.nd rfl (.inl rfl))) (fun _ _ _ _ _ => pts_nil) (fun _ _ _ _ _ => (pe_cl C__law_one (hr.mono (by omega)) (by rfl) (pa_cons (pv 0) (pa_cons (pv 10) pa_nil))))) pa_nil)))
  (pss_cons (ps_set (i := 12) sc_law_way_right.nd rfl (.inl rfl) (pe_ix ix_list (pe_callB cr_sortedTp (by rfl) m_sorted (by decide +kernel) (pa_cons (pv 11) pa_nil)) pe_int (fun _ _ => rfl)))
  (pss_cons (ps_if (pt_cmpR op_eq (pv 5) pe_str (nomark _))
    (pss_one (ps_set (i := 12) sc_law_way_right.nd rfl (.inl rfl) (pe_ix ix_list (pe_callB cr_sortedTp (by rfl) m_sorted (by decide +kernel) (pa_cons (pv 11) pa_nil)) (pe_un un_neg pe_int) (fun _ _ => rfl))))
    pss_nil)
  (pss_one (ps_if (pt_not (pt_val (pe_cl C__law_alike (hr.mono (by omega)) (by rfl) (pa_cons (pe_cl C_bears (hr.mono (by omega)) (by rfl) (pa_cons (pv 1) (pa_cons (pv 2) (pa_cons (pv 9) (pa_cons (pv 11) pa_nil))))) (pa_cons (pe_tupL (pa_cons (pv 12) (pa_cons (pe_op op_addL (pv 9) (pv 7)) pa_nil))) pa_nil)))))
    (pss_one (ps_ret pe_bl))
    pss_nil))))))))
  (pss_one (ps_ret pe_bl))))), ?_⟩
    refine ⟨.ref p, rfl, p, _, 3, _, rfl, rfl, SqT.of W.hp, rfl, .int i, rfl, pw, ws, i, _, rfl, rfl, SqT.of W.hw, atN hws, r, _, rfl, SqT.of hr1, rfl, _, _, rfl, _, _, rfl, _, _, rfl, _, _, rfl, _, _, rfl, rfl, ?_⟩
    refine ⟨.ref g.d, rfl, 10, 6, rfl, rfl, by decide, by decide, by decide, fun z1 ez1 => ⟨g, _, z1, rfl, hF, by omega, by rw [ez1]; decide, by rw [ez1]; decide, fun ne H1 ne0 ne1 F1 K1 => ?_⟩⟩
    -- the moments
    refine ⟨7, rfl, ⟨by decide, by decide, by decide, by decide, by decide⟩, fun q2 nq2 => ?_⟩
    have F2 := F1.new (o := .lst (rgV 0 7)) nq2
    have K2 : Kp g H1 (upd H1 q2 (.lst (rgV 0 7))) := Kp.new nq2
    have hq2 : upd H1 q2 (.lst (rgV 0 7)) q2 = some (.lst (rgV 0 7)) := upd_same
    have oQ2 := F1.off nq2
    generalize upd H1 q2 (.lst (rgV 0 7)) = H2 at F2 K2 hq2 ⊢
    refine ⟨.int ne, rfl, 10, 15, rfl, rfl, by decide, by decide, by decide, fun z2 ez2 => ⟨10, 15, rfl, rfl, by decide, by decide, by decide, fun z3 ez3 => ⟨.ref g.d, rfl, g, _, 40, rfl, F2, by omega, by decide, by decide, fun x3 H3 x30 x31 F3 K3 => ⟨z3, x3, rfl, rfl, fun z4 ez4 => ⟨sz (n := 3) (by decide), fun p4 H4 np4 eH4 => ?_⟩⟩⟩⟩⟩
    have K4 : Kp g H3 H4 := by rw [eH4]; exact Kp.new np4
    have F4 : Fu g _ H4 := eH4 ▸ F3.new np4
    have hp4 : H4 p4 = some (.lst [.int ne, .int z2, .int z4]) := by rw [eH4]; exact upd_same
    refine ⟨q2, p4, _, _, rfl, rfl, (K3.trans K4).off oQ2 hq2, hp4, sz (by rw [rgV_length]; show 7 + 3 ≤ 100000; decide), fun p5 np5 => ?_⟩
    have ai : ∀ x ∈ rgV 0 7 ++ [V.int ne, V.int z2, V.int z4], ∃ z : Int, x = V.int z ∧ True := fun x hx => by
      rcases List.mem_append.mp hx with h | h
      · obtain ⟨j, _, rfl⟩ := List.mem_map.mp h
        exact ⟨_, rfl, trivial⟩
      · simp only [List.mem_cons, List.not_mem_nil, or_false] at h
        rcases h with rfl | rfl | rfl <;> exact ⟨_, rfl, trivial⟩
    have la : (rgV 0 7 ++ [V.int ne, V.int z2, V.int z4]).length = 10 := by rw [List.length_append, rgV_length]; rfl
    have F8 := F4.new (o := .lst (rgV 0 7 ++ [V.int ne, V.int z2, V.int z4])) np5
    have K8 : Kp g H4 (upd H4 p5 (.lst (rgV 0 7 ++ [V.int ne, V.int z2, V.int z4]))) := Kp.new np5
    have hp5 : upd H4 p5 (.lst (rgV 0 7 ++ [V.int ne, V.int z2, V.int z4])) p5 = some (.lst (rgV 0 7 ++ [V.int ne, V.int z2, V.int z4])) := upd_same
    have oP5 := F4.off np5
    generalize upd H4 p5 (.lst (rgV 0 7 ++ [V.int ne, V.int z2, V.int z4])) = H8 at F8 K8 hp5 ⊢
    generalize rgV 0 7 ++ [V.int ne, V.int z2, V.int z4] = ml at ai la hp5 ⊢
    have K08 : Kp g H H8 := (((K1.trans K2).trans K3).trans K4).trans K8
    refine ⟨p5, rfl, ⟨_, SqL.of hp5⟩, ?_⟩
    refine for_list (xs := ml) (fun j σ H' => (∃ B' : Nat, B' + j * 5 = B - 2 ∧ Fu g B' H') ∧ Kp g H8 H' ∧ ∃ y3 y8 y9 y10 y11 y12, σ = [some (.ref g.d), some (.ref p), some (.int i), y3, some (.ref pp), some (.str kp), some (.ref ph), some (.int wt), y8, y9, y10, y11, y12, none]) ⟨⟨B - 2, by omega, F8.mono (by omega)⟩, Kp.refl _ _, _, _, _, _, _, _, rfl⟩ (fun j σ H' _ h => SqL.of (h.2.1.off oP5 hp5)) (fun j x σ H9 hx h => ?_) (fun σ H9 h => ?_)
    · obtain ⟨⟨B', eB, F9⟩, K9, y3, y8, y9, y10, y11, y12, rfl⟩ := h
      have hj : j < ml.length := (List.getElem?_eq_some_iff.mp hx).1
      have hB' : 5 ≤ B' := by omega
      obtain ⟨m, rfl, _⟩ := ai _ (List.mem_of_getElem? hx)
      have T9 : Tk H H9 := hF.tk (K08.trans K9)
      have W9 := W.mono T9
      dsimp only [gName, tSeq, tNext]
      refine ifFS (fun Q1 q1 => ?_) (fun H10 sm10 => ?_)
      · refine ⟨.ref p, rfl, .int i, rfl, .int m, rfl, p, n, m, ss, ws, i, r, kk, pp, kp, ph, wt, hs, rfl, W9.wd, hws, T9 _ _ hr1, T9 _ _ hph, fun b eb => ?_⟩
        refine ⟨.int m, rfl, .ref p, rfl, p, _, 0, _, rfl, rfl, SqT.of W9.hp, rfl, m, n, rfl, rfl, by omega, fun z ez _ _ => ⟨.ref ph, rfl, ph, _, rfl, .inr (SqT.of (T9 _ _ hph)), rfl, flat_ints hs, _, _, rfl, .inl ⟨rfl, ?_⟩, fun H10 sm10 => ⟨_, rfl, q1 _ sm10⟩⟩⟩
        show V.bl b = V.bl (inV (.int z) (hs.map V.int))
        rw [eb, inV_ints, ez]
      have F10 := F9.same sm10
      -- far
      refine ⟨.int m, rfl, 20, rfl, .int m, rfl, .ref g.d, rfl, g, _, 21, rfl, F10, by omega, by decide, by decide, fun x1 H11 x10 x11 F11 K11 => ⟨m, x1, rfl, rfl, fun z5 ez5 => ⟨.ref g.d, rfl, 10, 15, rfl, rfl, by decide, by decide, by decide, fun z6 ez6 => ⟨g, _, z6, rfl, F11, by omega, by rw [ez6]; decide, by rw [ez6]; decide, fun x2 H12 x20 x21 F12 K12 => ⟨sz (n := 4) (by decide), fun pf H13 npf eH13 => ?_⟩⟩⟩⟩⟩
      have K13 : Kp g H12 H13 := by rw [eH13]; exact Kp.new npf
      have F13 : Fu g _ H13 := eH13 ▸ F12.new npf
      have hpf : H13 pf = some (.lst [.int m, .int (-20), .int z5, .int x2]) := by rw [eH13]; exact upd_same
      have oPf := F12.off npf
      have K813 : Kp g H8 H13 := (((K9.trans (Kp.same sm10)).trans K11).trans K12).trans K13
      have T13 : Tk H H13 := hF.tk (K08.trans K813)
      -- origins
      refine ⟨.ref pp, rfl, pp, rfl, ⟨_, SqT.of (T13 _ _ hpp)⟩, fun D nD => ?_⟩
      refine lcT (K := K) (xs := psl) 1 (fun _ y => ∃ z : Int, y = V.int z ∧ True) (fun i acc => acc.length = i) nD F13 (by omega) (by omega) (T13 _ _ hpp) (fun _ _ _ _ h => h) rfl (fun j y H14 B2 hj F14 hB2 K14 Qk Qs qk qs => ?_) (fun H14 acc F14 K14 eD el pl al => ?_)
      · refine ⟨rfl, .ref g.d, rfl, .ref pf, rfl, g, B2, .ref pf, rfl, F14, hB2, .inl ⟨pf, _, rfl, oPf, K14.off oPf hpf, (show 0 < 4 by decide), (show 4 ≤ 1000 by decide), fun v H15 vm F15 K15 => ?_⟩⟩
        refine qk _ _ F15 K15 ?_ (fun acc h => by rw [List.length_append, h]; rfl)
        simp only [List.mem_cons, List.not_mem_nil, or_false] at vm
        rcases vm with rfl | rfl | rfl | rfl <;> exact ⟨_, rfl, trivial⟩
      obtain ⟨os, rfl, _⟩ := all_map al
      rw [List.length_map] at pl
      refine ⟨D, _, rfl, .inl ⟨SqL.of eD, fun po npo => ?_⟩⟩
      have F14' := F14.new (o := .tup (os.map V.int)) npo
      have K814 : Kp g H8 (upd H14 po (.tup (os.map V.int))) := (K813.trans K14).trans (Kp.new npo)
      have hpo : upd H14 po (.tup (os.map V.int)) po = some (.tup (os.map V.int)) := upd_same
      generalize upd H14 po (.tup (os.map V.int)) = H14' at F14' K814 hpo ⊢
      -- due
      refine ⟨.ref po, rfl, po, os, rfl, SqT.of hpo, by omega, fun ns pS HS perm srt npS eHS => ?_⟩
      have SS : Same H14' HS := by rw [eHS]; exact sm_new npS
      have hpS : HS pS = some (.lst (ns.map V.int)) := by rw [eHS]; exact upd_same
      obtain ⟨a0, ha0, a0m, a0l⟩ := sorted_head perm srt (by omega)
      refine ⟨pS, _, 0, _, rfl, rfl, SqL.of hpS, ha0, ?_⟩
      refine ⟨.str kp, rfl, rfl, _, rfl, ite2 (fun e => ?_) (fun e => ?_)⟩
      · have e : kp = "youngest" := V.str.inj (of_decide_eq_true e)
        have no : ¬ kp = "oldest" := fun z => ne_young (z.symm.trans e)
        refine ⟨.ref po, rfl, po, os, rfl, SqT.of (SS _ _ hpo), by omega, fun ns2 pS2 HS2 perm2 srt2 npS2 eHS2 => ?_⟩
        have SS2 : Same HS HS2 := by rw [eHS2]; exact sm_new npS2
        have hpS2 : HS2 pS2 = some (.lst (ns2.map V.int)) := by rw [eHS2]; exact upd_same
        obtain ⟨du, hdu, dum, dul⟩ := sorted_last perm2 srt2 (by omega)
        refine ⟨1, rfl, pS2, _, -1, _, rfl, rfl, SqL.of hpS2, hdu, ?_⟩
        have F15 := F14'.same (SS.trans SS2)
        have K815 : Kp g H8 HS2 := K814.trans (Kp.same (SS.trans SS2))
        have hpo15 := SS2 _ _ (SS _ _ hpo)
        generalize HS2 = H15 at F15 K815 hpo15 ⊢
        have T15 : Tk H H15 := hF.tk (K08.trans K815)
        dsimp only [gName, tSeq, tNext]
        refine ifFS (fun Q1 q1 => ?_) (fun H16 sm16 => ⟨⟨B' - 5, by omega, (F15.same sm16).mono (by omega)⟩, (K815.trans (Kp.same sm16)), _, _, _, _, _, _, rfl⟩)
        refine ⟨.ref p, rfl, .int i, rfl, .int m, rfl, .ref po, rfl, p, n, m, ss, ws, i, r, kk, pp, kp, ph, wt, po, os, rfl, (W.mono T15).wd, hws, T15 _ _ hr1, hpo15, by omega, fun o bn t H16 best ebn nt eH16 => ?_⟩
        have S16 : Same H15 H16 := by rw [eH16]; exact sm_new nt
        have ht16 : H16 t = some (.tup [.int o, .int bn]) := by rw [eH16]; exact upd_same
        refine ⟨.int du, rfl, .int m, rfl, .int wt, rfl, m, wt, rfl, rfl, fun b2 eb2 => ⟨sz (n := 2) (by decide), fun t2 H17 nt2 eH17 => ?_⟩⟩
        have S17 : Same H16 H17 := by rw [eH17]; exact sm_new nt2
        have ht17 : H17 t2 = some (.tup [.int du, .int b2]) := by rw [eH17]; exact upd_same
        have e1 : o = du := by
          have h1 := dul _ best.1
          have h2 := best.2.2 no _ dum
          omega
        have e2 : bn = b2 := by omega
        exact ⟨_, _, rfl, Sm.pair (by rw [S17 _ _ ht16, e1, e2]) ht17 rfl rfl, fun H18 sm18 => ⟨_, rfl, q1 _ ((S16.trans S17).trans sm18)⟩⟩
      · have e : kp = "oldest" := by
          rcases hkp with h | h
          · exact h
          · exact absurd (decide_eq_true (by rw [h])) e
        have F15 := F14'.same SS
        have K815 : Kp g H8 HS := K814.trans (Kp.same SS)
        have hpo15 := SS _ _ hpo
        obtain ⟨du, edu⟩ : ∃ du, du = a0 := ⟨_, rfl⟩
        rw [← edu] at a0m a0l ha0 ⊢
        generalize HS = H15 at F15 K815 hpo15 ⊢
        have T15 : Tk H H15 := hF.tk (K08.trans K815)
        dsimp only [gName, tSeq, tNext]
        refine ifFS (fun Q1 q1 => ?_) (fun H16 sm16 => ⟨⟨B' - 5, by omega, (F15.same sm16).mono (by omega)⟩, (K815.trans (Kp.same sm16)), _, _, _, _, _, _, rfl⟩)
        refine ⟨.ref p, rfl, .int i, rfl, .int m, rfl, .ref po, rfl, p, n, m, ss, ws, i, r, kk, pp, kp, ph, wt, po, os, rfl, (W.mono T15).wd, hws, T15 _ _ hr1, hpo15, by omega, fun o bn t H16 best ebn nt eH16 => ?_⟩
        have S16 : Same H15 H16 := by rw [eH16]; exact sm_new nt
        have ht16 : H16 t = some (.tup [.int o, .int bn]) := by rw [eH16]; exact upd_same
        refine ⟨.int du, rfl, .int m, rfl, .int wt, rfl, m, wt, rfl, rfl, fun b2 eb2 => ⟨sz (n := 2) (by decide), fun t2 H17 nt2 eH17 => ?_⟩⟩
        have S17 : Same H16 H17 := by rw [eH17]; exact sm_new nt2
        have ht17 : H17 t2 = some (.tup [.int du, .int b2]) := by rw [eH17]; exact upd_same
        have e1 : o = du := by
          have h1 := a0l _ best.1
          have h2 := best.2.1 e _ a0m
          omega
        have e2 : bn = b2 := by omega
        exact ⟨_, _, rfl, Sm.pair (by rw [S17 _ _ ht16, e1, e2]) ht17 rfl rfl, fun H18 sm18 => ⟨_, rfl, q1 _ ((S16.trans S17).trans sm18)⟩⟩
    · obtain ⟨⟨B', eB, F9⟩, K9, _⟩ := h
      exact q _ (F9.mono (by omega)) (K08.trans K9)
theorem ok_law {f : Addr} {fd : FuncData} (F : Fun K "law" "law" s_law f fd) (m_len : mg "len" = none) (m_range : mg "range" = none)
    (C__law_draws : Cl P w K mg base 1 "_law_draws" ["_law_script"] (spDraws K)) (C__law_world : Cl P w K mg base 5 "_law_world" ["_law_drawn", "_law_wide", "_law_old"] spWorld)
    (C__law_source_right : Cl P w K mg base 4 "_law_source_right" ["_law_drawn", "_law_world_here", "_law_number"] spSrcR)
    (C__law_way_right : Cl P w K mg base 4 "_law_way_right" ["_law_drawn", "_law_world_here", "_law_number"] spWayR) :
    FnOk P w K mg base CX0 6 f fd ["_law_script"] (spLaw K) := by
  refine F.ok sc_law (fun vs H Q E h => ?_) (fun cdv A outer s H vs Q E hr h => ?_)
  · obtain ⟨a, ns, rfl, _⟩ := h
    rfl
  · obtain ⟨a, ns, rfl, hS, hn, q⟩ := h
    refine ⟨_, (pss_cons (ps_set (i := 1) sc_law.nd rfl (.inr rfl) (pe_cl C__law_draws (hr.mono (by omega)) (by rfl) (pa_cons (pv 0) pa_nil)))
  (pss_cons (ps_for PassesOwn.never rfl (pi_range1 (by rfl) m_range (pa_cons pe_int pa_nil)) (pg_name (i := 2) sc_law.nd rfl (.inl rfl))
    (pss_cons (ps_set (i := 3) sc_law.nd rfl (.inr rfl) (pe_cl C__law_world (hr.mono (by omega)) (by rfl) (pa_cons (pv 1) (pa_cons pe_int (pa_cons pe_int pa_nil)))))
  (pss_cons (ps_if (pt_cmpR (op_neD hr.units) (pe_lc (own := [("_law_k", 4)]) (g := (gName 4)) rfl sc_law.nd (pi_range1 (by rfl) m_range (pa_cons (pe_callB call_len (by rfl) m_len (by decide +kernel) (pa_cons (pe_ix ix_tup (pv 3) pe_int (fun _ _ => rfl)) pa_nil)) pa_nil)) (blkOk_by (own := [("_law_k", 4)]) (N := ["_law_script", "_law_drawn", "_law_turn", "_law_world_here", "_law_k"]) (sc := defScope s_law) (by decide +kernel)) (fun _ _ _ _ _ => (pg_name (i := 4) sc_law.nd rfl (.inl rfl))) (fun _ _ _ _ _ => (pts_one (pt_not (pt_val (pe_cl C__law_source_right (hr.mono (by omega)) (by rfl) (pa_cons (pv 1) (pa_cons (pv 3) (pa_cons (pv 4) pa_nil)))))))) (fun _ _ _ _ _ => (pv 4))) (pe_lstL pa_nil) (nomark _))
    (pss_one (ps_ret pe_bl))
    pss_nil)
  (pss_one (ps_if (pt_cmpR (op_neD hr.units) (pe_lc (own := [("_law_k", 4)]) (g := (gName 4)) rfl sc_law.nd (pi_range1 (by rfl) m_range (pa_cons (pe_callB call_len (by rfl) m_len (by decide +kernel) (pa_cons (pe_ix ix_tup (pv 3) pe_int (fun _ _ => rfl)) pa_nil)) pa_nil)) (blkOk_by (own := [("_law_k", 4)]) (N := ["_law_script", "_law_drawn", "_law_turn", "_law_world_here", "_law_k"]) (sc := defScope s_law) (by decide +kernel)) (fun _ _ _ _ _ => (pg_name (i := 4) sc_law.nd rfl (.inl rfl))) (fun _ _ _ _ _ => (pts_one (pt_not (pt_val (pe_cl C__law_way_right (hr.mono (by omega)) (by rfl) (pa_cons (pv 1) (pa_cons (pv 3) (pa_cons (pv 4) pa_nil)))))))) (fun _ _ _ _ _ => (pv 4))) (pe_lstL pa_nil) (nomark _))
    (pss_one (ps_ret pe_bl))
    pss_nil)))))
  (pss_one (ps_ret pe_bl)))), ?_⟩
    refine ⟨.ref a, rfl, a, ns, rfl, hS, hn, fun g H1 _ F1 => ?_⟩
    refine ⟨2, rfl, by decide, by decide, ?_⟩
    refine for_range (n := (2 : Int).toNat) (fun i σ H' => i ≤ 2 ∧ (∃ B' : Nat, B' + i * 700 = 1000000 ∧ Fu g B' H') ∧ ∃ y2 y3 y4, σ = [some (.ref a), some (.ref g.d), y2, y3, y4]) ⟨by omega, ⟨_, by omega, F1⟩, _, _, _, rfl⟩ (fun i σ H3 hi h => ?_) (fun σ H3 h => q _)
    obtain ⟨_, ⟨B', eB, F3⟩, y2, y3, y4, rfl⟩ := h
    have hi : i < 2 := hi
    refine ⟨.ref g.d, rfl, g, _, 6, 20, rfl, F3, by omega, by decide, by decide, by decide, by decide, fun p n pk ks ps ss pw ws H4 W F4 K4 => ?_⟩
    have s6 := W.s6
    have w8 := W.w8
    have key : ∀ (H5 : Hp) (B5 : Nat) (D : Addr) (acc : List V), acc = [] → H5 D = some (.lst acc) → Fu g B5 H5 → ∀ (Q2 : Bool → Hp → Prop), (∀ H6, Same H5 H6 → Fu g B5 H6 → Q2 false H6) → ([] : List V).length ≤ sizeLine ∧ ∀ p H2, H5 p = none → H2 = upd H5 p (.lst []) → rNeD K (.ref D) (.ref p) H2 (fun x H1 => ∃ c, x = .bl c ∧ Q2 c H1) := by
      intro H5 B5 D acc ea eD F5 Q2 q2
      subst ea
      refine ⟨sz (n := 0) (by decide), fun p6 H6 np6 eH6 => ?_⟩
      have S6 : Same H5 H6 := by rw [eH6]; exact sm_new np6
      refine ⟨.list [], .list [], .lst (SqL.of (S6 _ _ eD)) .nil, .lst (SqL.of (by rw [eH6]; exact upd_same)) .nil, rfl, rfl, _, rfl, q2 _ S6 (F5.same S6)⟩
    refine ⟨.ref p, rfl, p, _, 2, _, rfl, rfl, SqT.of W.hp, rfl, .ref ps, ss.length, rfl, .inr ⟨_, SqT.of W.hs, rfl⟩, (ss.length : Int), rfl, by omega, by omega, fun D nD => ?_⟩
    refine lcR (g := g) 2 (fun _ _ => True) (fun _ acc => acc = []) nD F4 (by omega) (by omega) (fun _ _ _ _ h => h) rfl (fun k H5 B5 hk F5 hB5 K5 Qk Qs qk qs => ?_) (fun H5 acc F5 K5 eD el pl al => ?_)
    · have ek : (0 : Int) + (k : Int) = (k : Int) := by omega
      rw [ek]
      refine ⟨rfl, .ref g.d, rfl, .ref p, rfl, .int k, rfl, g, B5, p, n, pk, ks, ps, ss, pw, ws, k, rfl, F5, hB5, W.mono (F4.tk K5), by omega, fun H6 F6 K6 => ⟨_, rfl, ?_⟩⟩
      exact qs _ F6 K6 (fun acc h => h)
    refine key _ _ D acc pl eD F5 _ (fun H6 S6 F6 => ?_)
    have K46 : Kp g H4 H6 := K5.trans (Kp.same S6)
    have W6 := W.mono (F4.tk K46)
    refine ⟨.ref p, rfl, p, _, 3, _, rfl, rfl, SqT.of W6.hp, rfl, .ref pw, ws.length, rfl, .inr ⟨_, SqT.of W6.hw, rfl⟩, (ws.length : Int), rfl, by omega, by omega, fun D2 nD2 => ?_⟩
    refine lcR (g := g) 52 (fun _ _ => True) (fun _ acc => acc = []) nD2 F6 (by omega) (by omega) (fun _ _ _ _ h => h) rfl (fun k H7 B7 hk F7 hB7 K7 Qk Qs qk qs => ?_) (fun H7 acc7 F7 K7 eD7 el7 pl7 al7 => ?_)
    · have ek : (0 : Int) + (k : Int) = (k : Int) := by omega
      rw [ek]
      refine ⟨rfl, .ref g.d, rfl, .ref p, rfl, .int k, rfl, g, B7, p, n, pk, ks, ps, ss, pw, ws, k, rfl, F7, hB7, W6.mono (F6.tk K7), by omega, fun H8 F8 K8 => ⟨_, rfl, ?_⟩⟩
      exact qs _ F8 K8 (fun acc h => h)
    refine key _ _ D2 acc7 pl7 eD7 F7 _ (fun H8 S8 F8 => ?_)
    exact ⟨by omega, ⟨B' - 700, by omega, F8.mono (by omega)⟩, _, _, _, rfl⟩
end
end Rt
namespace Rt
open PySem PySem.Spec PyProof.Rows L2
theorem all_mk {l : PySem.W.OpenLaw} {w : World} {K : PySem.W.Frag} {h : Heap} {mg : Str → Option Value} {fa f0 f1 f2 f3 f4 f5 f6 f7 f8 f9 f10 f11 f12 f13 f14 f15 f16 f17 : Addr} (X : K.In h) (G : h.Ns mainGlobals mg) (hfa : mg "law" = some (.ref fa))
    {od0 an0 od1 an1 od2 an2 od3 an3 od4 an4 od5 an5 od6 an6 od7 an7 od8 an8 od9 an9 od10 an10 od11 an11 od12 an12 od13 an13 od14 an14 od15 an15 od16 an16 od17 an17 : Option Addr} {sl0 sl1 sl2 sl3 sl4 sl5 sl6 sl7 sl8 sl9 sl10 sl11 sl12 sl13 sl14 sl15 sl16 sl17 : Array (Option Value)} {oc0 kV0 dc0 pm0 cd0 ct0 oc1 kV1 dc1 pm1 cd1 ct1 oc2 kV2 dc2 pm2 cd2 ct2 oc3 kV3 dc3 pm3 cd3 ct3 oc4 kV4 dc4 pm4 cd4 ct4 oc5 kV5 dc5 pm5 cd5 ct5 oc6 kV6 dc6 pm6 cd6 ct6 oc7 kV7 dc7 pm7 cd7 ct7 oc8 kV8 dc8 pm8 cd8 ct8 oc9 kV9 dc9 pm9 cd9 ct9 oc10 kV10 dc10 pm10 cd10 ct10 oc11 kV11 dc11 pm11 cd11 ct11 oc12 kV12 dc12 pm12 cd12 ct12 oc13 kV13 dc13 pm13 cd13 ct13 oc14 kV14 dc14 pm14 cd14 ct14 oc15 kV15 dc15 pm15 cd15 ct15 oc16 kV16 dc16 pm16 cd16 ct16 oc17 kV17 dc17 pm17 cd17 ct17 : Value}
    (a0 : PySem.W.nsIn K mainGlobals "place_of" = some (some (.ref f0))) (l0 : K.lookup f0 = some ⟨oc0, od0, .func (PySem.W.fnOf "place_of" "place_of" (defArgs s_place_of) (defBody s_place_of) (defScope s_place_of) .none kV0 dc0 pm0 an0 cd0 ct0), sl0⟩) (c0 : PySem.W.codeIn K cd0 "place_of" = true) (k0 : PySem.W.keepIn K (.ref f0) = true)
    (a1 : PySem.W.nsIn K mainGlobals "brings" = some (some (.ref f1))) (l1 : K.lookup f1 = some ⟨oc1, od1, .func (PySem.W.fnOf "brings" "brings" (defArgs s_brings) (defBody s_brings) (defScope s_brings) .none kV1 dc1 pm1 an1 cd1 ct1), sl1⟩) (c1 : PySem.W.codeIn K cd1 "brings" = true) (k1 : PySem.W.keepIn K (.ref f1) = true)
    (a2 : PySem.W.nsIn K mainGlobals "opens" = some (some (.ref f2))) (l2 : K.lookup f2 = some ⟨oc2, od2, .func (PySem.W.fnOf "opens" "opens" (defArgs s_opens) (defBody s_opens) (defScope s_opens) .none kV2 dc2 pm2 an2 cd2 ct2), sl2⟩) (c2 : PySem.W.codeIn K cd2 "opens" = true) (k2 : PySem.W.keepIn K (.ref f2) = true)
    (a3 : PySem.W.nsIn K mainGlobals "first_of" = some (some (.ref f3))) (l3 : K.lookup f3 = some ⟨oc3, od3, .func (PySem.W.fnOf "first_of" "first_of" (defArgs s_first_of) (defBody s_first_of) (defScope s_first_of) .none kV3 dc3 pm3 an3 cd3 ct3), sl3⟩) (c3 : PySem.W.codeIn K cd3 "first_of" = true) (k3 : PySem.W.keepIn K (.ref f3) = true)
    (a4 : PySem.W.nsIn K mainGlobals "bears" = some (some (.ref f4))) (l4 : K.lookup f4 = some ⟨oc4, od4, .func (PySem.W.fnOf "bears" "bears" (defArgs s_bears) (defBody s_bears) (defScope s_bears) .none kV4 dc4 pm4 an4 cd4 ct4), sl4⟩) (c4 : PySem.W.codeIn K cd4 "bears" = true) (k4 : PySem.W.keepIn K (.ref f4) = true)
    (a5 : PySem.W.nsIn K mainGlobals "_law_draws" = some (some (.ref f5))) (l5 : K.lookup f5 = some ⟨oc5, od5, .func (PySem.W.fnOf "_law_draws" "_law_draws" (defArgs s_law_draws) (defBody s_law_draws) (defScope s_law_draws) .none kV5 dc5 pm5 an5 cd5 ct5), sl5⟩) (c5 : PySem.W.codeIn K cd5 "_law_draws" = true) (k5 : PySem.W.keepIn K (.ref f5) = true)
    (a6 : PySem.W.nsIn K mainGlobals "_law_next" = some (some (.ref f6))) (l6 : K.lookup f6 = some ⟨oc6, od6, .func (PySem.W.fnOf "_law_next" "_law_next" (defArgs s_law_next) (defBody s_law_next) (defScope s_law_next) .none kV6 dc6 pm6 an6 cd6 ct6), sl6⟩) (c6 : PySem.W.codeIn K cd6 "_law_next" = true) (k6 : PySem.W.keepIn K (.ref f6) = true)
    (a7 : PySem.W.nsIn K mainGlobals "_law_one" = some (some (.ref f7))) (l7 : K.lookup f7 = some ⟨oc7, od7, .func (PySem.W.fnOf "_law_one" "_law_one" (defArgs s_law_one) (defBody s_law_one) (defScope s_law_one) .none kV7 dc7 pm7 an7 cd7 ct7), sl7⟩) (c7 : PySem.W.codeIn K cd7 "_law_one" = true) (k7 : PySem.W.keepIn K (.ref f7) = true)
    (a8 : PySem.W.nsIn K mainGlobals "_law_alike" = some (some (.ref f8))) (l8 : K.lookup f8 = some ⟨oc8, od8, .func (PySem.W.fnOf "_law_alike" "_law_alike" (defArgs s_law_alike) (defBody s_law_alike) (defScope s_law_alike) .none kV8 dc8 pm8 an8 cd8 ct8), sl8⟩) (c8 : PySem.W.codeIn K cd8 "_law_alike" = true) (k8 : PySem.W.keepIn K (.ref f8) = true)
    (a9 : PySem.W.nsIn K mainGlobals "_law_kinds" = some (some (.ref f9))) (l9 : K.lookup f9 = some ⟨oc9, od9, .func (PySem.W.fnOf "_law_kinds" "_law_kinds" (defArgs s_law_kinds) (defBody s_law_kinds) (defScope s_law_kinds) .none kV9 dc9 pm9 an9 cd9 ct9), sl9⟩) (c9 : PySem.W.codeIn K cd9 "_law_kinds" = true) (k9 : PySem.W.keepIn K (.ref f9) = true)
    (a10 : PySem.W.nsIn K mainGlobals "_law_source" = some (some (.ref f10))) (l10 : K.lookup f10 = some ⟨oc10, od10, .func (PySem.W.fnOf "_law_source" "_law_source" (defArgs s_law_source) (defBody s_law_source) (defScope s_law_source) .none kV10 dc10 pm10 an10 cd10 ct10), sl10⟩) (c10 : PySem.W.codeIn K cd10 "_law_source" = true) (k10 : PySem.W.keepIn K (.ref f10) = true)
    (a11 : PySem.W.nsIn K mainGlobals "_law_part" = some (some (.ref f11))) (l11 : K.lookup f11 = some ⟨oc11, od11, .func (PySem.W.fnOf "_law_part" "_law_part" (defArgs s_law_part) (defBody s_law_part) (defScope s_law_part) .none kV11 dc11 pm11 an11 cd11 ct11), sl11⟩) (c11 : PySem.W.codeIn K cd11 "_law_part" = true) (k11 : PySem.W.keepIn K (.ref f11) = true)
    (a12 : PySem.W.nsIn K mainGlobals "_law_way" = some (some (.ref f12))) (l12 : K.lookup f12 = some ⟨oc12, od12, .func (PySem.W.fnOf "_law_way" "_law_way" (defArgs s_law_way) (defBody s_law_way) (defScope s_law_way) .none kV12 dc12 pm12 an12 cd12 ct12), sl12⟩) (c12 : PySem.W.codeIn K cd12 "_law_way" = true) (k12 : PySem.W.keepIn K (.ref f12) = true)
    (a13 : PySem.W.nsIn K mainGlobals "_law_world" = some (some (.ref f13))) (l13 : K.lookup f13 = some ⟨oc13, od13, .func (PySem.W.fnOf "_law_world" "_law_world" (defArgs s_law_world) (defBody s_law_world) (defScope s_law_world) .none kV13 dc13 pm13 an13 cd13 ct13), sl13⟩) (c13 : PySem.W.codeIn K cd13 "_law_world" = true) (k13 : PySem.W.keepIn K (.ref f13) = true)
    (a14 : PySem.W.nsIn K mainGlobals "_law_is" = some (some (.ref f14))) (l14 : K.lookup f14 = some ⟨oc14, od14, .func (PySem.W.fnOf "_law_is" "_law_is" (defArgs s_law_is) (defBody s_law_is) (defScope s_law_is) .none kV14 dc14 pm14 an14 cd14 ct14), sl14⟩) (c14 : PySem.W.codeIn K cd14 "_law_is" = true) (k14 : PySem.W.keepIn K (.ref f14) = true)
    (a15 : PySem.W.nsIn K mainGlobals "_law_source_right" = some (some (.ref f15))) (l15 : K.lookup f15 = some ⟨oc15, od15, .func (PySem.W.fnOf "_law_source_right" "_law_source_right" (defArgs s_law_source_right) (defBody s_law_source_right) (defScope s_law_source_right) .none kV15 dc15 pm15 an15 cd15 ct15), sl15⟩) (c15 : PySem.W.codeIn K cd15 "_law_source_right" = true) (k15 : PySem.W.keepIn K (.ref f15) = true)
    (a16 : PySem.W.nsIn K mainGlobals "_law_way_right" = some (some (.ref f16))) (l16 : K.lookup f16 = some ⟨oc16, od16, .func (PySem.W.fnOf "_law_way_right" "_law_way_right" (defArgs s_law_way_right) (defBody s_law_way_right) (defScope s_law_way_right) .none kV16 dc16 pm16 an16 cd16 ct16), sl16⟩) (c16 : PySem.W.codeIn K cd16 "_law_way_right" = true) (k16 : PySem.W.keepIn K (.ref f16) = true)
    (a17 : PySem.W.nsIn K mainGlobals "law" = some (some (.ref f17))) (l17 : K.lookup f17 = some ⟨oc17, od17, .func (PySem.W.fnOf "law" "law" (defArgs s_law) (defBody s_law) (defScope s_law) .none kV17 dc17 pm17 an17 cd17 ct17), sl17⟩) (c17 : PySem.W.codeIn K cd17 "law" = true) (k17 : PySem.W.keepIn K (.ref f17) = true)
    (z_min : PySem.W.nsIn K mainGlobals "min" = some none)
    (z_max : PySem.W.nsIn K mainGlobals "max" = some none)
    (z_len : PySem.W.nsIn K mainGlobals "len" = some none)
    (z_list : PySem.W.nsIn K mainGlobals "list" = some none)
    (z_int : PySem.W.nsIn K mainGlobals "int" = some none)
    (z_isinstance : PySem.W.nsIn K mainGlobals "isinstance" = some none)
    (z_tuple : PySem.W.nsIn K mainGlobals "tuple" = some none)
    (z_bool : PySem.W.nsIn K mainGlobals "bool" = some none)
    (z_str : PySem.W.nsIn K mainGlobals "str" = some none)
    (z_all : PySem.W.nsIn K mainGlobals "all" = some none)
    (z_zip : PySem.W.nsIn K mainGlobals "zip" = some none)
    (z_range : PySem.W.nsIn K mainGlobals "range" = some none)
    (z_sorted : PySem.W.nsIn K mainGlobals "sorted" = some none)
    : ∃ fd : FuncData, (∀ (s : Shared) (v : Value), BindsTo s fd ⟨[v], []⟩ [("_law_script", v)]) ∧ ∀ base : Heap, K.In base → base.Ns mainGlobals mg → FnOk l.prog w K mg base CX0 6 fa fd ["_law_script"] (spLaw K) := by
  have e := hfa.symm.trans (PySem.W.mg_of X G a17)
  cases e
  have F0 := fun_mk (st := s_place_of) l0 c0 k0
  have b0 := F0.binds (ps := ["world", "number"]) fun _ _ _ _ _ _ us hl => match us, hl with | [_, _], _ => rfl
  have g0 := PySem.W.mg_of X G a0
  have F1 := fun_mk (st := s_brings) l1 c1 k1
  have b1 := F1.binds (ps := ["world", "source", "moment"]) fun _ _ _ _ _ _ us hl => match us, hl with | [_, _, _], _ => rfl
  have g1 := PySem.W.mg_of X G a1
  have F2 := fun_mk (st := s_opens) l2 c2 k2
  have b2 := F2.binds (ps := ["world", "way", "moment"]) fun _ _ _ _ _ _ us hl => match us, hl with | [_, _, _], _ => rfl
  have g2 := PySem.W.mg_of X G a2
  have F3 := fun_mk (st := s_first_of) l3 c3 k3
  have b3 := F3.binds (ps := ["world", "source"]) fun _ _ _ _ _ _ us hl => match us, hl with | [_, _], _ => rfl
  have g3 := PySem.W.mg_of X G a3
  have F4 := fun_mk (st := s_bears) l4 c4 k4
  have b4 := F4.binds (ps := ["world", "way", "moment", "origins"]) fun _ _ _ _ _ _ us hl => match us, hl with | [_, _, _, _], _ => rfl
  have g4 := PySem.W.mg_of X G a4
  have F5 := fun_mk (st := s_law_draws) l5 c5 k5
  have b5 := F5.binds (ps := ["_law_script"]) fun _ _ _ _ _ _ us hl => match us, hl with | [_], _ => rfl
  have g5 := PySem.W.mg_of X G a5
  have F6 := fun_mk (st := s_law_next) l6 c6 k6
  have b6 := F6.binds (ps := ["_law_drawn", "_law_below"]) fun _ _ _ _ _ _ us hl => match us, hl with | [_, _], _ => rfl
  have g6 := PySem.W.mg_of X G a6
  have F7 := fun_mk (st := s_law_one) l7 c7 k7
  have b7 := F7.binds (ps := ["_law_drawn", "_law_wares"]) fun _ _ _ _ _ _ us hl => match us, hl with | [_, _], _ => rfl
  have g7 := PySem.W.mg_of X G a7
  have F8 := fun_mk (st := s_law_alike) l8 c8 k8
  have b8 := F8.binds (ps := ["_law_one_here", "_law_other"]) fun _ _ _ _ _ _ us hl => match us, hl with | [_, _], _ => rfl
  have g8 := PySem.W.mg_of X G a8
  have F9 := fun_mk (st := s_law_kinds) l9 c9 k9
  have b9 := F9.binds (ps := ["_law_drawn", "_law_many"]) fun _ _ _ _ _ _ us hl => match us, hl with | [_, _], _ => rfl
  have g9 := PySem.W.mg_of X G a9
  have F10 := fun_mk (st := s_law_source) l10 c10 k10
  have b10 := F10.binds (ps := ["_law_drawn", "_law_size", "_law_kinds_here", "_law_old"]) fun _ _ _ _ _ _ us hl => match us, hl with | [_, _, _, _], _ => rfl
  have g10 := PySem.W.mg_of X G a10
  have F11 := fun_mk (st := s_law_part) l11 c11 k11
  have b11 := F11.binds (ps := ["_law_drawn", "_law_kinds_here", "_law_old"]) fun _ _ _ _ _ _ us hl => match us, hl with | [_, _, _], _ => rfl
  have g11 := PySem.W.mg_of X G a11
  have F12 := fun_mk (st := s_law_way) l12 c12 k12
  have b12 := F12.binds (ps := ["_law_drawn", "_law_size", "_law_kinds_here", "_law_old"]) fun _ _ _ _ _ _ us hl => match us, hl with | [_, _, _, _], _ => rfl
  have g12 := PySem.W.mg_of X G a12
  have F13 := fun_mk (st := s_law_world) l13 c13 k13
  have b13 := F13.binds (ps := ["_law_drawn", "_law_wide", "_law_old"]) fun _ _ _ _ _ _ us hl => match us, hl with | [_, _, _], _ => rfl
  have g13 := PySem.W.mg_of X G a13
  have F14 := fun_mk (st := s_law_is) l14 c14 k14
  have b14 := F14.binds (ps := ["_law_thing", "_law_low", "_law_high"]) fun _ _ _ _ _ _ us hl => match us, hl with | [_, _, _], _ => rfl
  have g14 := PySem.W.mg_of X G a14
  have F15 := fun_mk (st := s_law_source_right) l15 c15 k15
  have b15 := F15.binds (ps := ["_law_drawn", "_law_world_here", "_law_number"]) fun _ _ _ _ _ _ us hl => match us, hl with | [_, _, _], _ => rfl
  have g15 := PySem.W.mg_of X G a15
  have F16 := fun_mk (st := s_law_way_right) l16 c16 k16
  have b16 := F16.binds (ps := ["_law_drawn", "_law_world_here", "_law_number"]) fun _ _ _ _ _ _ us hl => match us, hl with | [_, _, _], _ => rfl
  have g16 := PySem.W.mg_of X G a16
  have F17 := fun_mk (st := s_law) l17 c17 k17
  have b17 := F17.binds (ps := ["_law_script"]) fun _ _ _ _ _ _ us hl => match us, hl with | [_], _ => rfl
  have g17 := PySem.W.mg_of X G a17
  have m_min := PySem.W.mg_none_of X G z_min
  have m_max := PySem.W.mg_none_of X G z_max
  have m_len := PySem.W.mg_none_of X G z_len
  have m_list := PySem.W.mg_none_of X G z_list
  have m_int := PySem.W.mg_none_of X G z_int
  have m_isinstance := PySem.W.mg_none_of X G z_isinstance
  have m_tuple := PySem.W.mg_none_of X G z_tuple
  have m_bool := PySem.W.mg_none_of X G z_bool
  have m_str := PySem.W.mg_none_of X G z_str
  have m_all := PySem.W.mg_none_of X G z_all
  have m_zip := PySem.W.mg_none_of X G z_zip
  have m_range := PySem.W.mg_none_of X G z_range
  have m_sorted := PySem.W.mg_none_of X G z_sorted
  refine ⟨PySem.W.fnOf "law" "law" (defArgs s_law) (defBody s_law) (defScope s_law) .none kV17 dc17 pm17 an17 cd17 ct17, fun s v => .of_eq rfl, fun base _ _ => ?_⟩
  have C0 : Cl l.prog w K mg base 1 "place_of" ["world", "number"] (spPlace) := ⟨f0, _, ok_place F0, g0, F0.kp, b0⟩
  have C1 : Cl l.prog w K mg base 2 "brings" ["world", "source", "moment"] (spBrings) := ⟨f1, _, ok_brings F1 C0, g1, F1.kp, b1⟩
  have C2 : Cl l.prog w K mg base 2 "opens" ["world", "way", "moment"] (spOpens) := ⟨f2, _, ok_opens F2 C0, g2, F2.kp, b2⟩
  have C3 : Cl l.prog w K mg base 2 "first_of" ["world", "source"] (spFirst) := ⟨f3, _, ok_first F3 C0, g3, F3.kp, b3⟩
  have C4 : Cl l.prog w K mg base 1 "bears" ["world", "way", "moment", "origins"] (spBears) := ⟨f4, _, ok_bears F4 m_min m_max, g4, F4.kp, b4⟩
  have C5 : Cl l.prog w K mg base 1 "_law_draws" ["_law_script"] (spDraws K) := ⟨f5, _, ok_draws F5 m_len m_list m_int, g5, F5.kp, b5⟩
  have C6 : Cl l.prog w K mg base 1 "_law_next" ["_law_drawn", "_law_below"] (spNext) := ⟨f6, _, ok_next F6 m_len, g6, F6.kp, b6⟩
  have C7 : Cl l.prog w K mg base 2 "_law_one" ["_law_drawn", "_law_wares"] (spOne K) := ⟨f7, _, ok_one F7 m_len C6, g7, F7.kp, b7⟩
  have C8 : Cl l.prog w K mg base 3 "_law_alike" ["_law_one_here", "_law_other"] (spAlike 2) := ⟨f8, _, ok_alike F8 b8 g8 m_len m_isinstance m_tuple m_bool m_int m_str m_all m_zip 2, g8, F8.kp, b8⟩
  have C9 : Cl l.prog w K mg base 3 "_law_kinds" ["_law_drawn", "_law_many"] (spKinds) := ⟨f9, _, ok_kinds F9 m_range m_sorted m_tuple C6 C7, g9, F9.kp, b9⟩
  have C10 : Cl l.prog w K mg base 3 "_law_source" ["_law_drawn", "_law_size", "_law_kinds_here", "_law_old"] (spSource) := ⟨f10, _, ok_source F10 C6 C7, g10, F10.kp, b10⟩
  have C11 : Cl l.prog w K mg base 3 "_law_part" ["_law_drawn", "_law_kinds_here", "_law_old"] (spPart) := ⟨f11, _, ok_part F11 m_min C6 C7, g11, F11.kp, b11⟩
  have C12 : Cl l.prog w K mg base 4 "_law_way" ["_law_drawn", "_law_size", "_law_kinds_here", "_law_old"] (spWay) := ⟨f12, _, ok_way F12 m_range m_tuple C6 C7 C11, g12, F12.kp, b12⟩
  have C13 : Cl l.prog w K mg base 5 "_law_world" ["_law_drawn", "_law_wide", "_law_old"] (spWorld) := ⟨f13, _, ok_world F13 m_range m_tuple C6 C9 C10 C12, g13, F13.kp, b13⟩
  have C14 : Cl l.prog w K mg base 1 "_law_is" ["_law_thing", "_law_low", "_law_high"] (spIs) := ⟨f14, _, ok_is F14 m_isinstance m_int m_bool, g14, F14.kp, b14⟩
  have C15 : Cl l.prog w K mg base 4 "_law_source_right" ["_law_drawn", "_law_world_here", "_law_number"] (spSrcR) := ⟨f15, _, ok_srcr F15 m_range m_max C6 C8 C14 C1 C3, g15, F15.kp, b15⟩
  have C16 : Cl l.prog w K mg base 4 "_law_way_right" ["_law_drawn", "_law_world_here", "_law_number"] (spWayR) := ⟨f16, _, ok_wayr F16 m_list m_range m_tuple m_sorted C6 C7 C8 C2 C4, g16, F16.kp, b16⟩
  exact ok_law F17 m_len m_range C5 C13 C15 C16
end Rt
open PySem PySem.W PyProof.Rows
set_option maxHeartbeats 0 in
theorem PySem.Challenge.cw_rightage_k02_what_brings_and_opens_holds : PySem.Challenge.rw_rightage_k02_what_brings_and_opens.Holds := by
  w_on; o_law; k_head; (case hw => w_witness2)
  k_fill
  refine L2.walk_of (l := PySem.Challenge.rw_rightage_k02_what_brings_and_opens) (n := 63) (k := 6) (x := "_law_script") (CX := fun _ => L2.CX0) (sp := fun w => Rt.spLaw _) rfl (by decide) rfl ⟨rfl, by decide, by decide⟩ (fun w h Y => PySem.W.kIn_of Y) ?F (fun _ _ a ns hl _ hS => ⟨a, ns, rfl, hS, hl, fun _ => rfl⟩) (fun _ _ _ _ _ h => h)
  case F =>
    intro w mg fa h KX G hmg
    refine' Rt.all_mk KX G hmg ?a0 ?l0 ?c0 ?k0 ?a1 ?l1 ?c1 ?k1 ?a2 ?l2 ?c2 ?k2 ?a3 ?l3 ?c3 ?k3 ?a4 ?l4 ?c4 ?k4 ?a5 ?l5 ?c5 ?k5 ?a6 ?l6 ?c6 ?k6 ?a7 ?l7 ?c7 ?k7 ?a8 ?l8 ?c8 ?k8 ?a9 ?l9 ?c9 ?k9 ?a10 ?l10 ?c10 ?k10 ?a11 ?l11 ?c11 ?k11 ?a12 ?l12 ?c12 ?k12 ?a13 ?l13 ?c13 ?k13 ?a14 ?l14 ?c14 ?k14 ?a15 ?l15 ?c15 ?k15 ?a16 ?l16 ?c16 ?k16 ?a17 ?l17 ?c17 ?k17 ?z_min ?z_max ?z_len ?z_list ?z_int ?z_isinstance ?z_tuple ?z_bool ?z_str ?z_all ?z_zip ?z_range ?z_sorted
    (case a0 => k_is)
    (case l0 => k_is)
    (case c0 => k_is)
    (case k0 => k_is)
    (case a1 => k_is)
    (case l1 => k_is)
    (case c1 => k_is)
    (case k1 => k_is)
    (case a2 => k_is)
    (case l2 => k_is)
    (case c2 => k_is)
    (case k2 => k_is)
    (case a3 => k_is)
    (case l3 => k_is)
    (case c3 => k_is)
    (case k3 => k_is)
    (case a4 => k_is)
    (case l4 => k_is)
    (case c4 => k_is)
    (case k4 => k_is)
    (case a5 => k_is)
    (case l5 => k_is)
    (case c5 => k_is)
    (case k5 => k_is)
    (case a6 => k_is)
    (case l6 => k_is)
    (case c6 => k_is)
    (case k6 => k_is)
    (case a7 => k_is)
    (case l7 => k_is)
    (case c7 => k_is)
    (case k7 => k_is)
    (case a8 => k_is)
    (case l8 => k_is)
    (case c8 => k_is)
    (case k8 => k_is)
    (case a9 => k_is)
    (case l9 => k_is)
    (case c9 => k_is)
    (case k9 => k_is)
    (case a10 => k_is)
    (case l10 => k_is)
    (case c10 => k_is)
    (case k10 => k_is)
    (case a11 => k_is)
    (case l11 => k_is)
    (case c11 => k_is)
    (case k11 => k_is)
    (case a12 => k_is)
    (case l12 => k_is)
    (case c12 => k_is)
    (case k12 => k_is)
    (case a13 => k_is)
    (case l13 => k_is)
    (case c13 => k_is)
    (case k13 => k_is)
    (case a14 => k_is)
    (case l14 => k_is)
    (case c14 => k_is)
    (case k14 => k_is)
    (case a15 => k_is)
    (case l15 => k_is)
    (case c15 => k_is)
    (case k15 => k_is)
    (case a16 => k_is)
    (case l16 => k_is)
    (case c16 => k_is)
    (case k16 => k_is)
    (case a17 => k_is)
    (case l17 => k_is)
    (case c17 => k_is)
    (case k17 => k_is)
    (case z_min => k_is)
    (case z_max => k_is)
    (case z_len => k_is)
    (case z_list => k_is)
    (case z_int => k_is)
    (case z_isinstance => k_is)
    (case z_tuple => k_is)
    (case z_bool => k_is)
    (case z_str => k_is)
    (case z_all => k_is)
    (case z_zip => k_is)
    (case z_range => k_is)
    (case z_sorted => k_is)
