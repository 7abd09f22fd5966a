import PyProof.Rows.All
import Wide.All
import OpenK.AllK
import Wide.FinOn
import HandS.ForMost
import HandS.Wide
import HandS.NoneIn
import HandS.IsInst
import HandS.Zip
import HandS.Walk
import HandS.Style
import HandS.CallLocal
import HandS.TupAny
import HandS.TupMul
import KE.GoesEnum
import HandS.Conv
import HandS.Strs
import HandS.Deep
import HandS.Flow
import PyProof.ReprRoads
import PyProof.ReprLen
import PyProof.FitsInt
import KE.DatumOrd
import PyProof.Rows.IntBool
import PyProof.StrLawsRepr
import PySem.Challenge.RW_rightage_k00_worlds_judged
set_option Elab.async false
set_option linter.all false
set_option maxRecDepth 100000
set_option maxHeartbeats 4000000
namespace Rt
open PySem PySem.Spec PyProof.Rows L2

/-! ### a def of the text as its callers see it -/
structure Cl (P : Program) (w : World) (K : PySem.W.Frag) (mg : Str → Option Value) (base : Heap) (k : Nat) (x : Str) (ps : List Str) (sp : Sp) : Prop where
  ex : ∃ (f : Addr) (fd : FuncData), FnOk P w K mg base CX0 k f fd ps sp ∧ mg x = some (.ref f) ∧ PySem.W.keepIn K (.ref f) = true ∧ Binds K fd ps []
section
variable {X : Cx}
theorem pe_cl {k : Nat} {x : Str} {ps : List Str} {sp : Sp} {p pos : Pos} {e : Expr} {es : List Expr} {t : TA} (C : Cl X.prog X.w X.K X.mg X.base k x ps sp) (hr : Room k X.A) (hg : Gl X x) (ha : PA X (e :: es) t)
    (hdb : (x == ("__debug__" : Str)) = false := by decide) (he : starEach (e :: es) X.env = (false, eval e X.env) :: starEach es X.env := by rfl) (hpl : (backTo pos (starEach es X.env)).any (·.1) = false := by rfl) :
    PE X (.Call (.Name x p) (e :: es) [] pos) (tCall sp [] E0 t) := by
  obtain ⟨f, fd, F, hm, hk, hb⟩ := C.ex
  exact pe_call F hr hg hm hk hb .nil pass0 ha hdb he hpl
end


/-! ### rules that hand on letters -/
section
variable {X : Cx}
theorem OpR.weak {f : Value → Value → Sem Value} {r r' : R2} (o : OpR X f r) (m : ∀ x y H Q, r' x y H Q → r x y H Q) : OpR X f r' := fun pn s σ H x y v u Q I a b q => o pn s σ H x y v u Q I a b (m _ _ _ _ q)
def rModL : R2 := fun x y H Q => ∃ i j : Int, x = .int i ∧ y = .int j ∧ 0 < j ∧ ∀ z : Int, z = i % j → 0 ≤ z → z < j → Q (.int z) H
theorem op_modL : OpR X (binaryOp .Mod) rModL := OpR.weak op_mod fun x y H Q h => by
  obtain ⟨i, j, rfl, rfl, hj, q⟩ := h
  exact ⟨i, j, rfl, rfl, hj, q _ rfl (Int.emod_nonneg _ (by omega)) (Int.emod_lt_of_pos _ hj)⟩
def rPowL : R2 := fun x y H Q => ∃ i j : Int, x = .int i ∧ y = .int j ∧ 0 ≤ j ∧ j ≤ 1000000 ∧ i.natAbs < 2 ^ 64 ∧ ∀ z : Int, z = i ^ j.toNat → Q (.int z) H
theorem op_powL : OpR X (binaryOp .Pow) rPowL := OpR.weak op_pow fun x y H Q h => by
  obtain ⟨i, j, rfl, rfl, h0, h1, h2, q⟩ := h
  exact ⟨i, j, rfl, rfl, ⟨h0, h1, h2⟩, q _ rfl⟩
def rMulL : R2 := fun x y H Q => ∃ i j : Int, x = .int i ∧ y = .int j ∧ CMul i j ∧ ∀ z : Int, z = i * j → Q (.int z) H
theorem op_mulL : OpR X (binaryOp .Mult) rMulL := OpR.weak op_mul fun x y H Q h => by
  obtain ⟨i, j, rfl, rfl, h2, q⟩ := h
  exact ⟨i, j, rfl, rfl, h2, q _ rfl⟩
def rAddL : R2 := fun x y H Q => ∃ i j : Int, x = .int i ∧ y = .int j ∧ ∀ z : Int, z = i + j → Q (.int z) H
theorem op_addL : OpR X (binaryOp .Add) rAddL := OpR.weak op_add fun x y H Q h => by
  obtain ⟨i, j, rfl, rfl, q⟩ := h
  exact ⟨i, j, rfl, rfl, q _ rfl⟩
def rSubL : R2 := fun x y H Q => ∃ i j : Int, x = .int i ∧ y = .int j ∧ ∀ z : Int, z = i - j → Q (.int z) H
theorem op_subL : OpR X (binaryOp .Sub) rSubL := OpR.weak op_sub fun x y H Q h => by
  obtain ⟨i, j, rfl, rfl, q⟩ := h
  exact ⟨i, j, rfl, rfl, q _ rfl⟩
def rDivL : R2 := fun x y H Q => ∃ i j : Int, x = .int i ∧ y = .int j ∧ CDivW i j ∧ ∀ z : Int, z = i / j → Q (.int z) H
theorem op_divL : OpR X (binaryOp .FloorDiv) rDivL := OpR.weak op_fdivW fun x y H Q h => by
  obtain ⟨i, j, rfl, rfl, h2, q⟩ := h
  exact ⟨i, j, rfl, rfl, h2, q _ rfl⟩
def rSetLL : V → V → V → Hp → (Hp → Prop) → Prop := fun o i v H Q => ∃ p xs k j, o = .ref p ∧ i = .int k ∧ H p = some (.lst xs) ∧ ixN xs.length k = some j ∧ ∀ H', H' = upd H p (.lst (xs.set j v)) → Q H'
theorem set_listL : PSet X rSetLL := fun pn s σ H o i v ov iv u Q I a b c h => set_list pn s σ H o i v ov iv u Q I a b c (by
  obtain ⟨p, xs, k, j, e1, e2, e3, e4, q⟩ := h
  exact ⟨p, xs, k, j, e1, e2, e3, e4, q _ rfl⟩)
def tTupL (t : TA) : TE := fun σ H Q => t σ H fun xs H1 => xs.length ≤ sizeLine ∧ ∀ p H2, H1 p = none → H2 = upd H1 p (.tup xs) → Q (.ref p) H2
def tLstL (t : TA) : TE := fun σ H Q => t σ H fun xs H1 => xs.length ≤ sizeLine ∧ ∀ p H2, H1 p = none → H2 = upd H1 p (.lst xs) → Q (.ref p) H2
/-- consequence -/
theorem PA.weak {es : List Expr} {t t' : TA} (h : PA X es t) (m : ∀ σ H Q, t' σ H Q → ∃ Q', t σ H Q' ∧ ∀ v H', Q' v H' → Q v H') : PA X es t' := ⟨fun po pn s σ H Q I q => by
  obtain ⟨Q', a, b⟩ := m _ _ _ q
  exact wpAny_mono (h.run po pn s σ H Q' I a) (fun us s1 ⟨vs, H1, I1, r1, q1⟩ => ⟨vs, H1, I1, r1, b _ _ q1⟩) fun _ _ z => z⟩
theorem pe_tupL {es : List Expr} {t : TA} {x1} {pos : Pos} (h : PA X es t) : PE X (.Tuple es x1 pos) (tTupL t) :=
  ⟨fun pn s σ H Q I q => (pe_tup (x1 := x1) (pos := pos) (PA.weak (t' := fun σ H Q => ∃ Q', t σ H Q' ∧ ∀ v H', Q' v H' → Q v H') h fun _ _ _ z => z)).run pn s σ H Q I ⟨_, q, fun xs H1 z => ⟨z.1, fun p hp => z.2 p _ hp rfl⟩⟩⟩
theorem pe_lstL {es : List Expr} {t : TA} {pos : Pos} (h : PA X es t) : PE X (.List es pos) (tLstL t) :=
  ⟨fun pn s σ H Q I q => (pe_lst (pos := pos) (PA.weak (t' := fun σ H Q => ∃ Q', t σ H Q' ∧ ∀ v H', Q' v H' → Q v H') h fun _ _ _ z => z)).run pn s σ H Q I ⟨_, q, fun xs H1 z => ⟨z.1, fun p hp => z.2 p _ hp rfl⟩⟩⟩
end

theorem sz {n : Nat} (h : n ≤ 100000) : n ≤ sizeLine := Nat.le_trans h (by decide)
theorem szl {n : Nat} (h : n < 100000) : n < sizeLine := Nat.lt_of_lt_of_le h (by decide)
theorem atI_in {α : Type} {xs : List α} {i : Int} (h0 : 0 ≤ i) (h : i < xs.length) : ∃ v, atI xs i = some v ∧ v ∈ xs ∧ xs[i.toNat]? = some v := by
  have h2 : i.toNat < xs.length := by omega
  have e : xs[i.toNat]? = some xs[i.toNat] := List.getElem?_eq_getElem h2
  refine ⟨xs[i.toNat], ?_, List.getElem_mem h2, e⟩
  have := atI_nat e
  rwa [Int.toNat_of_nonneg h0] at this
theorem ixN_in {n : Nat} {i : Int} (h0 : 0 ≤ i) (h : i < n) : ixN n i = some i.toNat := by
  unfold ixN
  rw [if_pos h0, if_pos h]

/-! ### rules whose written part is named (for comprehensions) -/
section
variable {X : Cx} {K : PySem.W.Frag}
theorem call_tupK (e : X.K = K := by rfl) : CallR X (.type "tuple") (fun xs H Q => ∃ p ys, xs = [.ref p] ∧ ((SqL K H p ys ∧ ∀ l, H l = none → Q (.ref l) (upd H l (.tup ys))) ∨ (SqT K H p ys ∧ Q (.ref p) H))) := by
  subst e
  exact call_tuple_of
theorem call_lenK (e : X.K = K := by rfl) : CallR X (.builtin "len") (fun xs H Q => ∃ x n, xs = [x] ∧ LenV K x H n ∧ Q (.int n) H) := by
  subst e
  exact call_len
theorem ix_tupK (e : X.K = K := by rfl) : IxR X (rIxT K) := by
  subst e
  exact ix_tup
theorem ix_listK (e : X.K = K := by rfl) : IxR X (rIxL K) := by
  subst e
  exact ix_list
end
end Rt
namespace Rt
open PySem PySem.Spec PyProof.Rows L2
/-! ### the drawn list: cells, the turn, the rests -/
structure Gd where
  d : Addr
  c : Addr
  r : Addr
  n : Nat
structure Dr (g : Gd) (t : Int) (H : Hp) : Prop where
  hd : H g.d = some (.lst [.ref g.c, .int t, .ref g.r])
  hc : ∃ cs : List Int, H g.c = some (.lst (cs.map V.int)) ∧ cs.length = g.n
  hr : ∃ rs : List Int, H g.r = some (.lst (rs.map V.int)) ∧ rs.length = g.n
  dc : g.d ≠ g.c
  dr : g.d ≠ g.r
  cr : g.c ≠ g.r
  n0 : 0 < g.n
  n63 : g.n ≤ 63
  t0 : 0 ≤ t
/-- so many draws may still come -/
def Fu (g : Gd) (B : Nat) (H : Hp) : Prop := ∃ t : Int, Dr g t H ∧ t + B ≤ 1000000
/-- all but the drawn list's own things is as it was -/
def Kp (g : Gd) (H H' : Hp) : Prop := ∀ p o, p ≠ g.d → p ≠ g.r → H p = some o → H' p = some o
/-- tuples are as they were -/
def Tk (H H' : Hp) : Prop := ∀ p xs, H p = some (.tup xs) → H' p = some (.tup xs)
structure Gd.Off (g : Gd) (p : Addr) : Prop where
  d : p ≠ g.d
  c : p ≠ g.c
  r : p ≠ g.r
theorem Kp.refl (g : Gd) (H : Hp) : Kp g H H := fun _ _ _ _ h => h
theorem Kp.trans {g : Gd} {H H1 H2 : Hp} (a : Kp g H H1) (b : Kp g H1 H2) : Kp g H H2 := fun p o h1 h2 h => b p o h1 h2 (a p o h1 h2 h)
theorem Kp.new {g : Gd} {H : Hp} {p : Addr} {o : HO} (h : H p = none) : Kp g H (upd H p o) := fun q u _ _ e => by
  rw [upd_ne (ne_of_none e h)]
  exact e
/-- what H does not know may change -/
theorem Kp.mut {g : Gd} {H H' : Hp} {p : Addr} {o : HO} (e : Kp g H H') (h : H p = none) : Kp g H (upd H' p o) := fun a u h1 h2 ha => by
  rw [upd_ne (ne_of_none ha h)]
  exact e a u h1 h2 ha
theorem Kp.off {g : Gd} {H H' : Hp} {p : Addr} {o : HO} (a : Kp g H H') (f : g.Off p) (h : H p = some o) : H' p = some o := a p o f.d f.r h
theorem Tk.refl (H : Hp) : Tk H H := fun _ _ h => h
theorem Tk.trans {H H1 H2 : Hp} (a : Tk H H1) (b : Tk H1 H2) : Tk H H2 := fun p xs h => b p xs (a p xs h)
theorem Tk.new {H : Hp} {p : Addr} {o : HO} (h : H p = none) : Tk H (upd H p o) := fun q u e => by
  rw [upd_ne (ne_of_none e h)]
  exact e
theorem Tk.lst {H : Hp} {p : Addr} {xs ys : List V} (h : H p = some (.lst xs)) : Tk H (upd H p (.lst ys)) := fun q u e => by
  rw [upd_ne (fun z => by rw [z, h] at e; cases e)]
  exact e
theorem Fu.mono {g : Gd} {B B' : Nat} {H : Hp} (h : Fu g B H) (e : B' ≤ B) : Fu g B' H := by
  obtain ⟨t, a, b⟩ := h
  exact ⟨t, a, by omega⟩
theorem Fu.tk {g : Gd} {B : Nat} {H H' : Hp} (h : Fu g B H) (k : Kp g H H') : Tk H H' := fun p xs e => by
  obtain ⟨t, a, b⟩ := h
  obtain ⟨rs, hr, _⟩ := a.hr
  exact k p _ (fun z => by rw [z, a.hd] at e; cases e) (fun z => by rw [z, hr] at e; cases e) e
theorem Fu.off {g : Gd} {B : Nat} {H : Hp} {p : Addr} (h : Fu g B H) (e : H p = none) : g.Off p := by
  obtain ⟨t, a, b⟩ := h
  obtain ⟨rs, hr, _⟩ := a.hr
  obtain ⟨cs, hc, _⟩ := a.hc
  exact ⟨fun z => (by rw [z, a.hd] at e; cases e), fun z => (by rw [z, hc] at e; cases e), fun z => (by rw [z, hr] at e; cases e)⟩
theorem Fu.upd {g : Gd} {B : Nat} {H : Hp} {p : Addr} {o : HO} (h : Fu g B H) (f : g.Off p) : Fu g B (L2.upd H p o) := by
  obtain ⟨t, a, b⟩ := h
  obtain ⟨cs, hc, ec⟩ := a.hc
  obtain ⟨rs, hr, er⟩ := a.hr
  refine ⟨t, ⟨?_, ⟨cs, ?_, ec⟩, ⟨rs, ?_, er⟩, a.dc, a.dr, a.cr, a.n0, a.n63, a.t0⟩, b⟩
  · rw [upd_ne f.d.symm]; exact a.hd
  · rw [upd_ne f.c.symm]; exact hc
  · rw [upd_ne f.r.symm]; exact hr
theorem Fu.new {g : Gd} {B : Nat} {H : Hp} {p : Addr} {o : HO} (h : Fu g B H) (e : H p = none) : Fu g B (L2.upd H p o) := h.upd (h.off e)
/-! ### comprehensions that draw -/
theorem lcR {g : Gd} {lo : Int} {n : Nat} {gt : TG} {tt : TT} {te : TE} {vs : List Nat} {σ : L2.St} {H1 : Hp} {D : Addr} {Qd : Hp → Prop} {B : Nat} (c : Nat) (Pt : Hp → V → Prop) (Pl : Nat → List V → Prop) (hD : H1 D = none) (hF : Fu g B H1) (hn : n ≤ 1000) (hB : n * c ≤ B)
    (mono : ∀ H H' x, Tk H H' → Pt H x → Pt H' x) (p0 : Pl 0 [])
    (hs : ∀ i H (B' : Nat), i < n → Fu g B' H → c ≤ B' → Kp g H1 H → ∀ (Qk : VK) (Qs : Hp → Prop),
      (∀ y H', Fu g (B' - c) H' → Kp g H H' → Pt H' y → (∀ acc, Pl i acc → Pl (i + 1) (acc ++ [y])) → Qk y H') → (∀ H', Fu g (B' - c) H' → Kp g H H' → (∀ acc, Pl i acc → Pl (i + 1) acc) → Qs H') →
      gt (.int (lo + i)) (wipe σ vs) H fun σ2 H2 => wipe σ2 vs = wipe σ vs ∧ tt σ2 H2 fun b H3 => if b = true then te σ2 H3 Qk else Qs H3)
    (hd : ∀ H acc, Fu g (B - n * c) H → Kp g H1 H → H D = some (.lst acc) → acc.length ≤ n → Pl n acc → (∀ x ∈ acc, Pt H x) → Qd H) :
    ∃ W : Nat → Nat → Hp → Prop, (∃ m, W 0 m (upd H1 D (.lst []))) ∧ ∀ i m H, W i m H →
      ((Itr lo n).stop i H ∧ Qd H) ∨ ((Itr lo n).go i H ∧ ∃ Nx : Hp → Prop, (∀ H', Nx H' → ∃ m', m' < m ∧ W (i + 1) m' H') ∧ ∀ x H', (Itr lo n).yld i H x H' → gt x (wipe σ vs) H' fun σ2 H2 => wipe σ2 vs = wipe σ vs ∧ tt σ2 H2 fun b H3 =>
        if b = true then te σ2 H3 fun y H4 => ∃ acc, H4 D = some (.lst acc) ∧ acc.length < sizeLine ∧ Nx (upd H4 D (.lst (acc ++ [y]))) else Nx H3) := by
  have oD := hF.off hD
  refine lc_range (Pv := fun i H => i ≤ n ∧ ∃ B', B' + i * c = B ∧ Fu g B' H ∧ Kp g H1 H ∧ ∃ acc, H D = some (.lst acc) ∧ acc.length ≤ i ∧ Pl i acc ∧ ∀ x ∈ acc, Pt H x) ⟨Nat.zero_le _, B, by omega, hF.upd oD, Kp.new hD, [], upd_same, Nat.le_refl _, p0, fun x h => nomatch h⟩ (fun i H hi p => ?_) (fun H p => ?_)
  · obtain ⟨_, B', eB, f, k, acc, eD, el, pl, al⟩ := p
    have h1 : (i + 1) * c ≤ n * c := Nat.mul_le_mul_right c hi
    have h2 : (i + 1) * c = i * c + c := Nat.succ_mul i c
    refine hs i H B' hi f (by omega) k _ _ (fun y H' f' k' py ply => ?_) (fun H' f' k' ply => ?_)
    · have eD' := k'.off oD eD
      refine ⟨acc, eD', szl (by omega), hi, B' - c, by omega, f'.upd oD, (k.trans k').mut hD, acc ++ [y], upd_same, by rw [List.length_append]; simp; omega, ply acc pl, fun x hx => ?_⟩
      rcases List.mem_append.mp hx with hx | hx
      · exact mono _ _ _ (Tk.lst eD') (mono _ _ _ (f.tk k') (al x hx))
      · have e : x = y := by simpa using hx
        subst e
        exact mono _ _ _ (Tk.lst eD') py
    · exact ⟨hi, B' - c, by omega, f', k.trans k', acc, k'.off oD eD, by omega, ply acc pl, fun x hx => mono _ _ _ (f.tk k') (al x hx)⟩
  · obtain ⟨_, B', eB, f, k, acc, eD, el, pl, al⟩ := p
    exact hd H acc (f.mono (by omega)) k eD el pl al
theorem lcT {K : PySem.W.Frag} {a : Addr} {xs : List V} {g : Gd} {gt : TG} {tt : TT} {te : TE} {vs : List Nat} {σ : L2.St} {H1 : Hp} {D : Addr} {Qd : Hp → Prop} {B : Nat} (c : Nat) (Pt : Hp → V → Prop) (Pl : Nat → List V → Prop) (hD : H1 D = none) (hF : Fu g B H1) (hn : xs.length ≤ 1000) (hB : xs.length * c ≤ B)
    (hx : H1 a = some (.tup xs)) (mono : ∀ H H' x, Tk H H' → Pt H x → Pt H' x) (p0 : Pl 0 [])
    (hs : ∀ i x H (B' : Nat), xs[i]? = some x → Fu g B' H → c ≤ B' → Kp g H1 H → ∀ (Qk : VK) (Qs : Hp → Prop),
      (∀ y H', Fu g (B' - c) H' → Kp g H H' → Pt H' y → (∀ acc, Pl i acc → Pl (i + 1) (acc ++ [y])) → Qk y H') → (∀ H', Fu g (B' - c) H' → Kp g H H' → (∀ acc, Pl i acc → Pl (i + 1) acc) → Qs H') →
      gt x (wipe σ vs) H fun σ2 H2 => wipe σ2 vs = wipe σ vs ∧ tt σ2 H2 fun b H3 => if b = true then te σ2 H3 Qk else Qs H3)
    (hd : ∀ H acc, Fu g (B - xs.length * c) H → Kp g H1 H → H D = some (.lst acc) → acc.length ≤ xs.length → Pl xs.length acc → (∀ x ∈ acc, Pt H x) → Qd H) :
    ∃ W : Nat → Nat → Hp → Prop, (∃ m, W 0 m (upd H1 D (.lst []))) ∧ ∀ i m H, W i m H →
      ((Itt K a).stop i H ∧ Qd H) ∨ ((Itt K a).go i H ∧ ∃ Nx : Hp → Prop, (∀ H', Nx H' → ∃ m', m' < m ∧ W (i + 1) m' H') ∧ ∀ x H', (Itt K a).yld i H x H' → gt x (wipe σ vs) H' fun σ2 H2 => wipe σ2 vs = wipe σ vs ∧ tt σ2 H2 fun b H3 =>
        if b = true then te σ2 H3 fun y H4 => ∃ acc, H4 D = some (.lst acc) ∧ acc.length < sizeLine ∧ Nx (upd H4 D (.lst (acc ++ [y]))) else Nx H3) := by
  have oD := hF.off hD
  refine lc_tup (xs := xs) (Pv := fun i H => i ≤ xs.length ∧ ∃ B', B' + i * c = B ∧ Fu g B' H ∧ Kp g H1 H ∧ ∃ acc, H D = some (.lst acc) ∧ acc.length ≤ i ∧ Pl i acc ∧ ∀ x ∈ acc, Pt H x) ⟨Nat.zero_le _, B, by omega, hF.upd oD, Kp.new hD, [], upd_same, Nat.le_refl _, p0, fun x h => nomatch h⟩ (fun i H _ p => ?_) (fun i x H hi p => ?_) (fun H p => ?_)
  · obtain ⟨_, B', eB, f, k, acc, eD, el, pl, al⟩ := p
    exact SqT.of (hF.tk k a xs hx)
  · obtain ⟨_, B', eB, f, k, acc, eD, el, pl, al⟩ := p
    have hi' : i < xs.length := (List.getElem?_eq_some_iff.mp hi).1
    have h1 : (i + 1) * c ≤ xs.length * c := Nat.mul_le_mul_right c hi'
    have h2 : (i + 1) * c = i * c + c := Nat.succ_mul i c
    refine hs i x H B' hi f (by omega) k _ _ (fun y H' f' k' py ply => ?_) (fun H' f' k' ply => ?_)
    · have eD' := k'.off oD eD
      refine ⟨acc, eD', szl (by omega), hi', B' - c, by omega, f'.upd oD, (k.trans k').mut hD, acc ++ [y], upd_same, by rw [List.length_append]; simp; omega, ply acc pl, fun x hx => ?_⟩
      rcases List.mem_append.mp hx with hx | hx
      · exact mono _ _ _ (Tk.lst eD') (mono _ _ _ (f.tk k') (al x hx))
      · have e : x = y := by simpa using hx
        subst e
        exact mono _ _ _ (Tk.lst eD') py
    · exact ⟨hi', B' - c, by omega, f', k.trans k', acc, k'.off oD eD, by omega, ply acc pl, fun x hx => mono _ _ _ (f.tk k') (al x hx)⟩
  · obtain ⟨_, B', eB, f, k, acc, eD, el, pl, al⟩ := p
    exact hd H acc (f.mono (by omega)) k eD el pl al
end Rt
namespace Rt
open PySem PySem.Spec PyProof.Rows L2
theorem Fu.loc {g : Gd} {b : Nat} {H H' : Hp} (i : Fu g b H) (h1 : H' g.d = H g.d) (h2 : H' g.c = H g.c) (h3 : H' g.r = H g.r) : Fu g b H' := by
  obtain ⟨t, a, l⟩ := i
  obtain ⟨cs, hc, ec⟩ := a.hc
  obtain ⟨rs, hr, er⟩ := a.hr
  exact ⟨t, ⟨by rw [h1]; exact a.hd, ⟨cs, by rw [h2]; exact hc, ec⟩, ⟨rs, by rw [h3]; exact hr, er⟩, a.dc, a.dr, a.cr, a.n0, a.n63, a.t0⟩, l⟩
end Rt
namespace Rt
open PySem PySem.Spec PyProof.Rows L2
section
variable {X : Cx}
/-! ### 'm' * n -/
theorem fold_app : ∀ (l : List (Array Nat)) (b : Array Nat), (l.foldl (· ++ ·) b).toList = b.toList ++ (l.map Array.toList).flatten
  | [], b => by simp
  | x :: r, b => by
    show (r.foldl (· ++ ·) (b ++ x)).toList = _
    rw [fold_app r (b ++ x)]
    simp
def rRepS : R2 := fun x y H Q => ∃ (z : Str) (n : Int), x = .str z ∧ y = .int n ∧ 1 ≤ n ∧ n ≤ 100 ∧ 0 < z.length ∧ z.length ≤ 100 ∧ ∀ r : Str, r.cps.toList = (List.replicate n.toNat z.cps.toList).flatten → r.length = n.toNat * z.length → Q (.str r) H
theorem op_repS : OpR X (binaryOp .Mult) rRepS := by
  intro pn s σ H x y v u Q I rx ry h
  obtain ⟨z, n, rfl, rfl, h1, h2, h3, h4, q⟩ := h
  obtain ⟨t, rfl⟩ := rx
  obtain ⟨t', rfl⟩ := ry
  have hl : z.length * n.toNat ≤ 10000 := Nat.le_trans (Nat.mul_le_mul h4 (show n.toNat ≤ 100 by omega)) (by decide)
  have el : ∀ r : Str, r.cps.toList = (List.replicate n.toNat z.cps.toList).flatten → r.length = n.toNat * z.length := fun r e => by
    show r.cps.size = _
    rw [← Array.length_toList, e, List.length_flatten, List.map_replicate, List.sum_replicate_nat]
    show n.toNat * z.cps.toList.length = n.toNat * z.cps.size
    rw [Array.length_toList]
  refine PySem.P.mul_str ?_ (fun _ _ => ?_) (fun _ _ => ?_) ?_
  · rw [decide_eq_false (by omega), decide_eq_false (by omega)]; rfl
  · have : (100 : Int) ≤ (2 ^ 63 - 1) / n := (Int.le_ediv_iff_mul_le (by omega)).mpr (by omega)
    omega
  · show decide (z.length * n.toNat > sizeLine) = false
    exact decide_eq_false (by have := sz (n := z.length * n.toNat) (by omega); omega)
  · rw [if_neg (by omega)]
    by_cases e : n = 1
    · subst e
      rw [if_pos (by rfl)]
      have e1 : z.cps.toList = (List.replicate (1 : Int).toNat z.cps.toList).flatten := by simp
      exact ⟨.str z, H, I, ⟨_, rfl⟩, q z e1 (el z e1)⟩
    · rw [if_neg (by simp [e]; omega)]
      have e1 : (⟨(List.replicate n.toNat z.cps).foldl (· ++ ·) #[]⟩ : Str).cps.toList = (List.replicate n.toNat z.cps.toList).flatten := by
        show ((List.replicate n.toNat z.cps).foldl (· ++ ·) #[]).toList = _
        rw [fold_app, List.map_replicate]
        rfl
      refine ⟨?_, ⟨.str _, H, I.tok _, ⟨_, rfl⟩, q _ e1 (el _ e1)⟩⟩
      rw [el _ e1, Nat.mul_comm]
      exact sz (by omega)
/-! ### min, max of a tuple of ints -/
theorem holds_ints {h : Heap} : ∀ {ns : List Int} {us : List Value}, Vals (ns.map V.int) us → PySem.W.HoldAll h us ns
  | [], _, .nil => .nil
  | n :: r, _, .cons a t => by
    obtain ⟨tk, rfl⟩ := a
    exact .cons ⟨_, .int n tk⟩ (holds_ints t)
theorem minOf_le : ∀ (xs : List Int) (x : Int), PySem.W.minOf x xs ∈ x :: xs ∧ ∀ y ∈ x :: xs, PySem.W.minOf x xs ≤ y
  | [], x => ⟨List.mem_cons_self, fun y h => (by
    have e : y = x := by simpa using h
    subst e
    exact Int.le_refl _)⟩
  | z :: r, x => by
    have ih := minOf_le r (if z < x then z else x)
    have e : PySem.W.minOf x (z :: r) = PySem.W.minOf (if z < x then z else x) r := by
      show r.foldl _ (if decide (z < x) = true then z else x) = r.foldl _ (if z < x then z else x)
      simp only [decide_eq_true_eq]
    rw [e]
    have hm := ih.2 _ List.mem_cons_self
    have hx : (if z < x then z else x) ≤ x := by split <;> omega
    have hz : (if z < x then z else x) ≤ z := by split <;> omega
    refine ⟨?_, fun y h => ?_⟩
    · rcases List.mem_cons.mp ih.1 with h | h
      · rw [h]; split <;> simp
      · exact List.mem_cons_of_mem _ (List.mem_cons_of_mem _ h)
    · rcases List.mem_cons.mp h with h | h
      · rw [h]; exact Int.le_trans hm hx
      · rcases List.mem_cons.mp h with h | h
        · rw [h]; exact Int.le_trans hm hz
        · exact ih.2 y (List.mem_cons_of_mem _ h)
theorem maxOf_ge : ∀ (xs : List Int) (x : Int), PySem.W.maxOf x xs ∈ x :: xs ∧ ∀ y ∈ x :: xs, y ≤ PySem.W.maxOf x xs
  | [], x => ⟨List.mem_cons_self, fun y h => (by
    have e : y = x := by simpa using h
    subst e
    exact Int.le_refl _)⟩
  | z :: r, x => by
    have ih := maxOf_ge r (if x < z then z else x)
    have e : PySem.W.maxOf x (z :: r) = PySem.W.maxOf (if x < z then z else x) r := by
      show r.foldl _ (if decide (x < z) = true then z else x) = r.foldl _ (if x < z then z else x)
      simp only [decide_eq_true_eq]
    rw [e]
    have hm := ih.2 _ List.mem_cons_self
    have hx : x ≤ (if x < z then z else x) := by split <;> omega
    have hz : z ≤ (if x < z then z else x) := by split <;> omega
    refine ⟨?_, fun y h => ?_⟩
    · rcases List.mem_cons.mp ih.1 with h | h
      · rw [h]; split <;> simp
      · exact List.mem_cons_of_mem _ (List.mem_cons_of_mem _ h)
    · rcases List.mem_cons.mp h with h | h
      · rw [h]; exact Int.le_trans hx hm
      · rcases List.mem_cons.mp h with h | h
        · rw [h]; exact Int.le_trans hz hm
        · exact ih.2 y (List.mem_cons_of_mem _ h)
def rMinT (K : PySem.W.Frag) : List V → Hp → VK → Prop := fun vs H Q => ∃ (a : Addr) (ns : List Int), vs = [V.ref a] ∧ SqT K H a (ns.map V.int) ∧ 0 < ns.length ∧ ∀ m, m ∈ ns → (∀ y, y ∈ ns → m ≤ y) → Q (.int m) H
def rMaxT (K : PySem.W.Frag) : List V → Hp → VK → Prop := fun vs H Q => ∃ (a : Addr) (ns : List Int), vs = [V.ref a] ∧ SqT K H a (ns.map V.int) ∧ 0 < ns.length ∧ ∀ m, m ∈ ns → (∀ y, y ∈ ns → y ≤ m) → Q (.int m) H
theorem cr_minT (hc : X.calm = true) (hu : X.A.units + 64 < cLine) : CallR X (.builtin "min") (rMinT X.K) := by
  intro pn s σ H vs us Q I r h
  obtain ⟨a, ns, rfl, hs, hne, q⟩ := h
  obtain ⟨its, rv, hl, _⟩ := I.tuple hs
  rw [Vals.ref1 r]
  cases ns with
  | nil => exact absurd hne (by decide)
  | cons x xs =>
    have hH : PySem.W.HoldAll s.heap its.toArray.toList (x :: xs) := holds_ints (ns := x :: xs) rv
    refine PySem.W.min_tuple_datum (I.ok.hd hc) hl hH (by show X.A.units + 1 + 0 < cLine; omega) fun i v h' tk hv ho hk => ?_
    obtain ⟨as, ho⟩ := ho
    cases ho with
    | int _ t => exact ⟨.int _, H, I.kept hk, ⟨_, rfl⟩, q _ (minOf_le xs x).1 (minOf_le xs x).2⟩
theorem cr_maxT (hc : X.calm = true) (hu : X.A.units + 64 < cLine) : CallR X (.builtin "max") (rMaxT X.K) := by
  intro pn s σ H vs us Q I r h
  obtain ⟨a, ns, rfl, hs, hne, q⟩ := h
  obtain ⟨its, rv, hl, _⟩ := I.tuple hs
  rw [Vals.ref1 r]
  cases ns with
  | nil => exact absurd hne (by decide)
  | cons x xs =>
    have hH : PySem.W.HoldAll s.heap its.toArray.toList (x :: xs) := holds_ints (ns := x :: xs) rv
    refine PySem.W.max_tuple_datum (I.ok.hd hc) hl hH (by show X.A.units + 1 + 0 < cLine; omega) fun i v h' tk hv ho hk => ?_
    obtain ⟨as, ho⟩ := ho
    cases ho with
    | int _ t => exact ⟨.int _, H, I.kept hk, ⟨_, rfl⟩, q _ (maxOf_ge xs x).1 (maxOf_ge xs x).2⟩
end
end Rt
namespace Rt
open PySem PySem.Spec PyProof.Rows L2
section
variable {prog : Program} {w : World} {A : Around} {E : Value → Shared → Prop} {s : Shared}
theorem sa_rev {sl : Addr} {vl vu vk : Value} {n : Nat} {Q : Int × Int × Nat → Shared → Prop} (hs : s.heap.IsSliceOf sl vl vu vk) (pl : IsPart vl none) (pu : IsPart vu none) (pk : IsPart vk (some (-1)))
    (h : Q ((n : Int) - 1, -1, n) s) : wpAny (model prog w) A (Builtin.Slice.sliceApplied (.ref sl) (pure (n : Int))) Q E s := by
  obtain ⟨os, hos, hcs, hds⟩ := id hs
  unfold Builtin.Slice.sliceApplied Builtin.Slice.sliceFields
  refine wpAny_bind (wpAny_bind (wpAny_field hos hds (x := vl) rfl (wpAny_bind (wpAny_field hos hds (x := vu) rfl (wpAny_bind (wpAny_field hos hds (x := vk) rfl (wpAny_pure ?_)))))))
  refine wpAny_bind (HT.slicePart_ pk ?_)
  show wpAny _ _ (if ((-1 : Int) == 0) = true then _ else _) _ _ s
  rw [if_neg (by decide)]
  refine wpAny_bind (HT.slicePart_ pl (wpAny_bind (HT.slicePart_ pu (wpAny_bind (wpAny_pure ?_)))))
  have e1 : Builtin.Slice.sliceAdjust none none (-1) (n : Int) = ((n : Int) - 1, -1) := by
    unfold Builtin.Slice.sliceAdjust
    simp
  have e2 : Builtin.Slice.slicePlaces ((n : Int) - 1) (-1) (-1) = n := by
    unfold Builtin.Slice.slicePlaces
    rw [if_neg (by decide)]
    by_cases hn : (n : Int) - 1 > -1
    · rw [if_pos hn, show (-(-1) : Int) = 1 by decide, Int.ediv_one]
      omega
    · rw [if_neg hn]
      omega
  show wpAny _ _ (match Builtin.Slice.sliceAdjust none none (-1) (n : Int) with | (lo, hi) => pure (lo, (-1 : Int), Builtin.Slice.slicePlaces lo hi (-1))) _ _ s
  rw [e1]
  show wpAny _ _ (pure ((n : Int) - 1, (-1 : Int), Builtin.Slice.slicePlaces ((n : Int) - 1) (-1) (-1))) _ _ s
  rw [e2]
  exact wpAny_pure h
theorem fm_congr {α β : Type} {f g : α → Option β} : ∀ {l : List α}, (∀ x ∈ l, f x = g x) → l.filterMap f = l.filterMap g
  | [], _ => rfl
  | a :: r, h => by
    rw [List.filterMap_cons, List.filterMap_cons, h a List.mem_cons_self, fm_congr fun x hx => h x (List.mem_cons_of_mem _ hx)]
theorem pick_rev (xs : Array Value) : ((List.range xs.size).filterMap fun (m : Nat) => xs[(((xs.size : Int) - 1) + (m : Int) * (-1)).toNat]?).toArray = xs.toList.reverse.toArray := by
  congr 1
  have e : (List.range xs.size).filterMap (fun (m : Nat) => xs[(((xs.size : Int) - 1) + (m : Int) * (-1)).toNat]?) = (List.range xs.size).filterMap (fun (m : Nat) => xs.toList.reverse[m]?) := by
    refine fm_congr fun m hm => ?_
    have hm := List.mem_range.mp hm
    have e2 : (((xs.size : Int) - 1) + (m : Int) * (-1)).toNat = xs.size - 1 - m := by omega
    rw [e2, List.getElem?_reverse (by rw [Array.length_toList]; exact hm), Array.length_toList, Array.getElem?_toList]
  rw [e]
  have g : ∀ l : List Value, (List.range l.length).filterMap (fun m => l[m]?) = l := by
    intro l
    induction l with
    | nil => rfl
    | cons a r ih =>
      rw [List.length_cons, List.range_succ_eq_map, List.filterMap_cons]
      simp only [List.getElem?_cons_zero, List.filterMap_map]
      congr 1
  have := g xs.toList.reverse
  rwa [List.length_reverse, Array.length_toList] at this
theorem item_rev {t sl : Addr} {items : Array Value} {vl vu vk : Value} {Q : Value → Shared → Prop} (ht : IsTup s.heap t items) (hs : s.heap.IsSliceOf sl vl vu vk) (pl : IsPart vl none) (pu : IsPart vu none) (pk : IsPart vk (some (-1)))
    (h : Q (.ref s.heap.objs.size) { s with heap := s.heap.push { cls := .type "tuple", data := .seq items.toList.reverse.toArray } })
    (hsz : items.size ≤ sizeLine) : wpAny (model prog w) A (getItem (.ref t) (.ref sl)) Q E s := by
  have htk : sizeOk (.seq items.toList.reverse.toArray) := by
    show items.toList.reverse.toArray.size ≤ sizeLine
    rw [List.size_toArray, List.length_reverse, Array.length_toList]
    exact hsz
  obtain ⟨os, hos, hcs, hds⟩ := id hs
  have hT2 : s.TypeIs (.ref sl) "slice" := ⟨os, hos, hcs⟩
  unfold getItem
  try with_reducible refine wpAny_holding ?_
  first | refine wpAny_bind (wpAny_pure ?_) | skip
  refine wpAny_bind (wpAny_sequenceKey ht.typeIs (by decide) ?_)
  refine wpAny_bind (wpAny_callSpecial?_slot (name := Str.ofString "__getitem__") ht.typeIs PyProof.Rows.slot_tuple_getitem (wpAny_call_entry PyProof.Rows.slot_tuple_getitem ht.typeIs entry_tuple_getitem ?_ (args_tuple_getitem _ _)))
  show wpAny _ _ (Builtin.Tuple.tupleItemsOf (.ref t) >>= _) _ _ s
  refine wpAny_bind (tupleItemsOf_ ht (wpAny_bind (wpAny_typeOf hT2 ?_)))
  rw [if_pos (by decide)]
  refine wpAny_bind (sa_rev (n := items.size) hs pl pu pk ?_)
  have hno : ¬ ((((items.size : Int) - 1) == 0 && (-1 : Int) == 1 && items.size == items.size) = true) := by
    intro z
    rw [Bool.and_eq_true, Bool.and_eq_true] at z
    exact absurd z.1.2 (by decide)
  show wpAny _ _ (if (((items.size : Int) - 1) == 0 && (-1 : Int) == 1 && items.size == items.size) = true then _ else _) _ _ s
  rw [if_neg hno, pick_rev]
  first
    | exact wpAny_bind (m := Builtin.Tuple.tupleExact _) (wpAny_newObj_type (wpAny_pure ⟨_, rfl, wpAny_pure h⟩) htk)
    | exact wpAny_bind (m := Builtin.Tuple.tupleExact _) (wpAny_newObj_type (wpAny_bind (wpAny_pure (wpAny_pure ⟨_, rfl, wpAny_pure h⟩))) htk)
    | exact wpAny_bind (wpAny_bind (m := Builtin.Tuple.tupleExact _) (wpAny_newObj_type (wpAny_pure (wpAny_pure ⟨_, rfl, wpAny_pure h⟩)) htk))
    | exact wpAny_bind (wpAny_bind (m := Builtin.Tuple.tupleExact _) (wpAny_newObj_type (wpAny_pure ⟨_, rfl, wpAny_pure h⟩) htk))
end
section
variable {X : Cx}
def tRevT (K : PySem.W.Frag) (te : TE) : TE := fun σ H Q => te σ H fun x H1 => ∃ a xs, x = .ref a ∧ SqT K H1 a xs ∧ ∀ p, H1 p = none → Q (.ref p) (upd H1 p (.tup xs.reverse))
theorem pe_revT {e : Expr} {te : TE} {k : Nat} {p1 p2 p3 pos : Pos} (he : PE X e te) : PE X (.Subscript e (.Slice none none (some (.UnaryOp .USub (.Constant (.int 1) k p1) p2)) p3) pos) (tRevT X.K te) := by
  refine ⟨fun pn s σ H Q I h => ?_⟩
  refine Subscript_ (thn (he.run pn s σ H _ I h) fun v s1 ⟨x, H1, I1, r1, q1⟩ => ?_)
  obtain ⟨a, xs, ex, hx, q⟩ := q1
  subst ex
  cases r1
  have hst : PO X (some (.UnaryOp .USub (.Constant (.int 1) k p1) p2)) (tPart (tUn (rU fun i => .int (-i)) (tC (.int 1)))) := po_some (pe_un un_neg pe_int)
  refine wpAny_Slice (thn (po_none.run pn s1 σ H1 (fun o H2 => o = none ∧ H2 = H1) I1 ⟨rfl, rfl⟩) fun vl s2 ⟨l, H2, I2, pl, el, e2⟩ => ?_)
  subst el e2
  refine thn (po_none.run pn s2 σ H2 (fun o H3 => o = none ∧ H3 = H2) I2 ⟨rfl, rfl⟩) fun vu s3 ⟨u, H3, I3, pu, eu, e3⟩ => ?_
  subst eu e3
  refine thn (hst.run pn s3 σ H3 (fun o H4 => o = some (-1) ∧ H4 = H3) I3 ⟨1, rfl, -1, rfl, rfl, rfl⟩) fun vs s4 ⟨o, H4, I4, ps, eo, e4⟩ => ?_
  subst eo e4
  have I5 : Inv X pn σ H4 { s4 with heap := s4.heap.push { cls := .type "slice", data := .fields #[vl, vu, vs] } } := I4.kept (t' := s4.toks) fun b ob q => Heap.get?_push_of_some _ q
  obtain ⟨its, r, ht, hz⟩ := I5.tuple hx
  have hlen := r.length
  show wpAny (model X.prog X.w) X.A (subscriptTail e (.Slice none none (some (.UnaryOp .USub (.Constant (.int 1) k p1) p2)) p3) (.ref a) (.ref s4.heap.objs.size)) (EP X pn σ Q) X.xe { s4 with heap := s4.heap.push { cls := .type "slice", data := .fields #[vl, vu, vs] } }
  refine tail_any (ops := [.ref a, .ref s4.heap.objs.size]) ht.typeIs (PyProof.Rows.slot_tuple_getitem.lookup) ?_ (by with_unfolding_all rfl)
  refine item_rev ht (Heap.IsSliceOf.new _ vl vu vs) pl pu ps ?_ (by rw [List.size_toArray]; omega)
  refine ⟨.ref _, _, I5.laid (t' := s4.toks) (o := .tup xs.reverse) (fun b ob q => Heap.get?_push_of_some _ q) (Nat.le_refl _) ?_, rfl, q _ (I5.hok.fresh (Nat.le_refl _))⟩
  exact ⟨by rw [List.length_reverse]; exact hz, _, r.reverse, IsTup.new _ _⟩
end
end Rt
namespace Rt
open PySem PySem.Spec PyProof.Rows L2
section
variable {prog : Program} {w : World} {A : Around} {E : Value → Shared → Prop} {s : Shared}
theorem collect_tup {t : Addr} {us : List Value} {Q : List Value → Shared → Prop} (ht : IsTup s.heap t us.toArray)
    (hq : Q us { s with heap := (s.heap.push (seqObj "list" #[] 0)).update s.heap.objs.size (Obj.mapSeq (· ++ us.toArray)) }) (hz : us.length ≤ sizeLine) :
    wpAny (model prog w) A (collect (.ref t)) Q E s := by
  obtain ⟨ob, hob, hcl, m, hdt⟩ := id ht
  unfold collect
  refine wpAny_bind (wpAny_runValue (codeAny_builtin entry_proto_collect' ?_))
  show wpAny _ _ (do again (.builtin "list.__iadd__" ⟨[← newList [], .ref t], []⟩)) _ _ s
  refine wpAny_bind (wpAny_newList (wpAny_pure ⟨Code.quiet_builtin _ (by decide +kernel), codeAny_builtin entry_list_iadd' ?_⟩))
  show wpAny _ _ (Builtin.List.listExtendWith (.ref s.heap.objs.size) (.ref t) (.ref s.heap.objs.size)) _ _ { s with heap := s.heap.push (seqObj "list" #[] 0) }
  unfold Builtin.List.listExtendWith
  have hob' : (s.heap.push (seqObj "list" #[] 0)).get? t = some ob := Heap.get?_push_of_some _ hob
  refine wpAny_bind (wpAny_typeOf (T := "tuple") ⟨ob, hob', hcl⟩ ?_)
  have htt : (Value.type "tuple" == Value.type "tuple") = true := by rfl
  rw [if_pos (by rw [htt]; simp)]
  refine wpAny_bind (listItems_at hob' hdt ?_)
  refine wpAny_bind (listItems_at (xs := #[]) (n := 0) (Heap.get?_push_size _ rfl) rfl ?_)
  rw [if_neg (by simp)]
  refine wpAny_bind (listUpdate_at (xs := #[]) (n := 0) (Heap.get?_push_size _ rfl) rfl ?_ (Nat.zero_le _) (by show (#[] ++ us.toArray).size ≤ sizeLine + 1; simp only [Array.size_append, List.size_toArray, List.length_nil]; omega))
  refine wpAny_pure ?_
  show wpAny (model prog w) A (do
      let ld ← load s.heap.objs.size
      match ld.data with
      | .seq xs _ => pure xs.toList
      | _ => unsupported "internal:collect") Q E { s with heap := (s.heap.push (seqObj "list" #[] 0)).update s.heap.objs.size (Obj.mapSeq (· ++ us.toArray)) }
  refine wpAny_bind (wpAny_load (get?_update_seq (Heap.get?_push_size _ rfl) _) ?_)
  show wpAny _ _ (pure ((#[] : Array Value) ++ us.toArray).toList) Q E _
  rw [show ((#[] : Array Value) ++ us.toArray).toList = us by simp]
  exact wpAny_pure hq
theorem sorted_tup {t : Addr} {us : List Value} {ns : List Int} {Q : Value → Shared → Prop} (ht : IsTup s.heap t us.toArray) (hI : IntsAre us ns) (h64 : us.length < 64)
    (hq : ∀ (out : Array Value) (ns' : List Int), IntsAre out.toList ns' → ns'.Perm ns → ns'.Pairwise (· ≤ ·) → Q (.ref (s.heap.objs.size + 1)) { s with heap := sortedAll s.heap us out }) :
    wpAny (model prog w) A (call (.builtin "sorted") [.ref t]) Q E s := by
  refine Calls.call_function_entry kind_sorted plain_sorted entry_sorted (args_sorted1 _) ?_
  unfold Builtin.«sorted»
  refine wpAny_bind (m := checkCount "sorted" 1 1 _) (wpAny_pure ?_)
  refine wpAny_bind (collect_tup ht ?_ (small64 h64))
  refine wpAny_bind (wpAny_newList ?_)
  have e1 : ((s.heap.push (seqObj "list" #[] 0)).update s.heap.objs.size (Obj.mapSeq (· ++ us.toArray))).objs.size = s.heap.objs.size + 1 := by
    rw [Heap.size_update, size_push']
  have hoL : (((s.heap.push (seqObj "list" #[] 0)).update s.heap.objs.size (Obj.mapSeq (· ++ us.toArray))).push (seqObj "list" us.toArray 0)).get? (s.heap.objs.size + 1) = some (seqObj "list" us.toArray 0) := by
    rw [← e1]; exact Heap.get?_push_size _ rfl
  show wpAny _ _ _ _ _ { s with heap := ((s.heap.push (seqObj "list" #[] 0)).update s.heap.objs.size (Obj.mapSeq (· ++ us.toArray))).push (seqObj "list" us.toArray 0) }
  rw [e1]
  refine wpAny_bind (wpAny_holding (wpAny_call_entry slot_list_sort ⟨_, hoL, rfl⟩ entry_list_sort (list_sort_tree hoL hI h64 fun out ns' a1 a2 a3 => ⟨_, rfl, ?_⟩) (args_list_sort _)))
  exact wpAny_pure ⟨_, rfl, hq out ns' a1 a2 a3⟩
end
section
variable {X : Cx}
def rSortedTp (K : PySem.W.Frag) : List V → Hp → VK → Prop := fun vs H Q => ∃ (a : Addr) (ns : List Int), vs = [V.ref a] ∧ SqT K H a (ns.map V.int) ∧ ns.length < 64 ∧
  ∀ (ns' : List Int) (p : Addr) (H' : Hp), ns'.Perm ns → ns'.Pairwise (· ≤ ·) → H p = none → H' = upd H p (.lst (ns'.map V.int)) → Q (.ref p) H'
theorem cr_sortedTp : CallR X (.builtin "sorted") (rSortedTp X.K) := by
  intro pn s σ H vs us Q I r h
  obtain ⟨a, ns, rfl, hs, h64, q⟩ := h
  obtain ⟨its, rv, hl, _⟩ := I.tuple hs
  rw [Vals.ref1 r]
  have hi := rv.ints
  refine sorted_tup hl hi (by rw [hi.length]; exact h64) fun out ns' h1 h2 h3 => ?_
  obtain ⟨ep, he'⟩ := PyProof.Rows.sortedAll_at s.heap its out
  have hln : (ns'.map V.int).length ≤ sizeLine := by rw [List.length_map, h2.length_eq]; exact small64 h64
  exact ⟨.ref _, upd H (s.heap.objs.size + 1) (.lst (ns'.map V.int)), I.laid (t' := s.toks) (fun _ _ => PyProof.Rows.sortedAll_old) (Nat.le_succ _) ⟨hln, out.toList, ep, vals_of_ints h1, he'⟩, rfl, q ns' _ _ h2 h3 (I.hok.fresh (Nat.le_succ _)) rfl⟩
end
end Rt
namespace Rt
open PySem PySem.Spec PyProof.Rows L2
/-! ### defs that are called where nothing is being shown (no guard stands around) -/
structure FnG (P : Program) (w : World) (K : PySem.W.Frag) (mg : Str → Option Value) (base : Heap) (k : Nat) (f : Addr) (fd : FuncData) (ps : List Str) (sp : Sp) : Prop where
  many : ∀ vs H Q E, sp vs H Q E → vs.length = ps.length
  goes : ∀ (A : Around) (outer : List Env) (s : Shared) (H : Hp) (args : Args) (us : List Value) (vs : List V) (Q : VK) (E : XK), Room k A → A.guards = some [] → Env0 P w K mg base A outer s H → BindsTo s fd args (ps.zip us) → Vals vs us → sp vs H Q E →
    codeAny (model P w) A (.call (.ref f) args) (CR CX0 outer P w H s Q E) s
section
variable {P : Program} {w : World} {K : PySem.W.Frag} {mg : Str → Option Value} {base : Heap}
theorem okG {x qual : Str} {st : Stmt} {f : Addr} {fd : FuncData} {N ps : List Str} {k : Nat} {sp : Sp} (F : Fun K x qual st f fd) (S : FnScope N ps (defScope st)) (many : ∀ vs H Q E, sp vs H Q E → vs.length = ps.length)
    (walk : ∀ (cdv : Value) (A : Around) (outer : List Env) (s : Shared) (H : Hp) (vs : List V) (Q : VK) (E : XK), Room k (A.deeper (envOfC qual (defScope st) s.heap.objs.size f cdv)) → (A.deeper (envOfC qual (defScope st) s.heap.objs.size f cdv)).guards = some [] → sp vs H Q E →
      ∃ t, PSs (cxOf CX0 P w K mg base N qual (defScope st) f cdv A outer s H E).nox (defBody st) t ∧ t { nx := fun _ H' => Q .non H', rt := Q } (start N vs) H) : FnG P w K mg base (k + 1) f fd ps sp := by
  obtain ⟨oc, od, kV, doc, pm, an, cdv, ct, osl, rfl, lk, hcd⟩ := F.ex
  refine ⟨many, fun A outer s H args us vs Q E room free e0 binds vals hsp => ?_⟩
  have cnt := many vs H Q E hsp
  have stands : ∀ b o, base.get? b = some o → s.heap.get? b = some o := fun b o e => (e0.bs b o e).1
  have inK : K.In s.heap := e0.mod.kin.keeps stands
  have kinds : ∀ y ∈ ps.zip us, (defScope st).names.lookup y.1 = some .local ∨ ((defScope st).names.lookup y.1 = some .cell ∧ ((cellsFrom (s.heap.objs.size + 1) (defScope st).names []).lookup y.1).isSome = true) := by
    rintro ⟨nm, vl⟩ hm
    exact (S.par nm (List.of_mem_zip hm).1).imp id fun c => ⟨c, PySem.W.cellsFrom_some _ _ _ (.inl c)⟩
  refine codeAny_call_function room.depth (inK _ _ lk) rfl S.co S.gen rfl (PySem.W.codeRec_of inK hcd) (binds _ _ _ _ (wpAny_newFunctionEnv_cells S.kind kinds fun env he s1 fresh => ?_))
  subst he
  refine ⟨(e0.mod.nolimit.keeps stands).keeps fresh.toInCall.keep, codeAny_func ?_⟩
  obtain ⟨t, ht, hq⟩ := walk cdv A outer s H vs Q E (room.deeper _) free hsp
  have J0 : Inv (cxOf CX0 P w K mg base N qual (defScope st) f cdv A outer s H E) [] (start N vs) H s1 := inv_start S room.hd e0 cnt vals fresh
  refine wpAny_mono (ht.nox.run [] s1 (start N vs) H _ J0 hq) (fun fl s2 done => ?_) fun _ _ z => z
  cases fl with
  | ret u => obtain ⟨v, σ2, H2, J, rv, qv⟩ := done; exact ⟨v, H2, J.os, J.bare, J.base, J.hok, rv, qv⟩
  | next => obtain ⟨σ2, H2, J, qv⟩ := done; exact ⟨V.non, H2, J.os, J.bare, J.base, J.hok, rfl, qv⟩
  | brk => obtain ⟨_, _, _, qv⟩ := done; exact qv.elim
  | cont => obtain ⟨_, _, _, qv⟩ := done; exact qv.elim
theorem FnG.of {k : Nat} {f : Addr} {fd : FuncData} {ps : List Str} {sp : Sp} (F : FnOk P w K mg base CX0 k f fd ps sp) : FnG P w K mg base k f fd ps sp :=
  ⟨F.len, fun A outer s H args us vs Q E room _ => F.run A outer s H args us vs Q E room⟩
end
structure ClG (P : Program) (w : World) (K : PySem.W.Frag) (mg : Str → Option Value) (base : Heap) (k : Nat) (x : Str) (ps : List Str) (sp : Sp) : Prop where
  ex : ∃ (f : Addr) (fd : FuncData), FnG P w K mg base k f fd ps sp ∧ mg x = some (.ref f) ∧ PySem.W.keepIn K (.ref f) = true ∧ Binds K fd ps []
section
variable {X : Cx}
theorem run_G {k : Nat} {f : Addr} {fd : FuncData} {ps : List Str} {sp : Sp} {pn : List (Addr × Obj)} {σ : L2.St} {H : Hp} {s : Shared} {Q : VK} {us : List Value} {vs : List V} (F : FnG X.prog X.w X.K X.mg X.base k f fd ps sp) (room : Room k X.A) (free : X.A.guards = some []) (bd : Binds X.K fd ps [])
    (I : Inv X pn σ H s) (r : Vals vs us) (h : sp (vs ++ []) H Q E0) : wpAny (model X.prog X.w) X.A (call (.ref f) us) (EP X pn σ Q) X.xe s := by
  have r2 : Vals (vs ++ []) (us ++ []) := r.append .nil
  refine wpAny_call (codeAny_mono (F.goes X.A X.stack s H ⟨us, []⟩ (us ++ []) (vs ++ []) Q E0 room free I.env0 (bd s us I.kIn (by rw [← r2.length]; exact F.many _ _ _ _ h)) r2 h) fun res s2 hq => ?_)
  cases res with
  | error e => exact (hq : False).elim
  | ok fl => cases fl with
    | ret u => exact I.after hq
    | next => exact (hq : False).elim
    | brk => exact (hq : False).elim
    | cont => exact (hq : False).elim
theorem pe_clG {k : Nat} {x : Str} {ps : List Str} {sp : Sp} {p pos : Pos} {e : Expr} {es : List Expr} {t : TA} (C : ClG X.prog X.w X.K X.mg X.base k x ps sp) (room : Room k X.A) (free : X.A.guards = some []) (hg : Gl X x) (ha : PA X (e :: es) t)
    (hdb : (x == ("__debug__" : Str)) = false := by decide) (he : starEach (e :: es) X.env = (false, eval e X.env) :: starEach es X.env := by rfl) (hpl : (backTo pos (starEach es X.env)).any (·.1) = false := by rfl) :
    PE X (.Call (.Name x p) (e :: es) [] pos) (tCall sp [] E0 t) := by
  obtain ⟨f, fd, F, hm, hk, hb⟩ := C.ex
  refine ⟨fun pn s σ H Q I h => wpAny_Call_Name_kw (ld_glob I hg hm ?_ hdb)⟩
  exact PySem.W.callWith_K (h₀ := X.base) I.ok.mod.kin hk (thn (ha.run pos pn s σ H _ I h) fun us s1 ⟨vs, H1, I1, r, q⟩ => ⟨I1.kIn, run_G F room free hb I1 r q⟩) he hpl
/-! ### repr of data -/
def rRepr (K : PySem.W.Frag) : List V → Hp → VK → Prop := fun xs H Q => ∃ (a : Addr) (d : PyData), xs = [.ref a] ∧ Dp K H (.ref a) d ∧ d.showable = true ∧ d.hasDict = false ∧ d.depth ≤ 60 ∧ d.shown.length ≤ sizeLine ∧ ∀ z : Str, z = d.shown → Q (.str z) H
theorem call_repr (free : X.A.guards = some []) (hu : X.A.units + 64 < cLine) : CallR X (.builtin "repr") (rRepr X.K) := by
  intro pn s σ H xs us Q I r h
  obtain ⟨a, d, rfl, hd, h1, h2, h3, h4, q⟩ := h
  obtain ⟨u, rfl, r1⟩ := vals1 r
  obtain ⟨as, rd⟩ := Dp.reads I d _ u hd r1
  cases r1
  exact repr_of_reads' rd h1 (fun z => by rw [h2] at z; cases z) free (by omega) (fun _ _ e => e) (fun h' u tk hk => ⟨.str _, H, I.kept hk, ⟨_, rfl⟩, q _ rfl⟩) h4
def rReprB : List V → Hp → VK → Prop := fun xs H Q => ∃ b : Bool, xs = [.bl b] ∧ ∀ z : Str, z = (if b then Str.ofString "True" else Str.ofString "False") → Q (.str z) H
theorem call_reprB : CallR X (.builtin "repr") rReprB := by
  intro pn s σ H xs us Q I r h
  obtain ⟨b, rfl, q⟩ := h
  obtain ⟨u, rfl, r1⟩ := vals1 r
  cases r1
  exact PySem.P.repr_of_bool ⟨.str _, H, I.tok _, ⟨_, rfl⟩, q _ rfl⟩
end
/-! ### the law itself, called where no guard stands -/
theorem lawG {P : Program} {w : World} {K : PySem.W.Frag} {mg mb : Str → Option Value} {k : Nat} {fa a : Addr} {fd : FuncData} {x : Str} {sp : Sp} {s0 : Shared} {us : List Value} {ns : List Int}
    (inK : K.In s0.heap) (gl : s0.heap.Ns mainGlobals mg) (bl : s0.heap.Ns builtinsNs mb) (bb : ∀ x : Str, x ≠ "__name__" → mb x = bootBuiltins x) (nl : s0.heap.NoLimit) (ng : s0.gens = #[])
    (sc : s0.heap.get? a = some { cls := .type "list", data := .seq us.toArray }) (hin : IntsAre us ns) (short : ns.length ≤ sizeLine) (room : Room k callerA)
    (F : ∀ base : Heap, K.In base → base.Ns mainGlobals mg → FnG P w K mg base k fa fd [x] sp) (bd : ∀ (s : Shared) (u : Value), BindsTo s fd ⟨[u], []⟩ [(x, u)])
    (hsp : ∀ H : Hp, Only H → SqL K H a (ns.map V.int) → sp [.ref a] H (fun v _ => v = .bl true) E0) :
    codeAny (model P w) callerA (.call (.ref fa) ⟨[.ref a], []⟩) (fun r s2 => r = .ok (.ret (.bool true)) ∧ OldK s0.heap s2.heap ∧ s2.os = s0.os ∧ AllBare s2.gens) s0 := by
  have rel := vals_ints hin
  have main : ∀ H : Hp, Only H → SqL K H a (ns.map V.int) → HOk P w H s0.heap → (∀ b u, H b = some u → b = a ∧ K.lookup a = none) →
      codeAny (model P w) callerA (.call (.ref fa) ⟨[.ref a], []⟩) (fun r s2 => r = .ok (.ret (.bool true)) ∧ OldK s0.heap s2.heap ∧ s2.os = s0.os ∧ AllBare s2.gens) s0 := by
    intro H only seq hok just
    have free : ∀ {b : Addr}, (b = a → K.lookup a = none → False) → H b = none := fun {b} no => by
      cases z : H b with
      | none => rfl
      | some u => exact (no (just b u z).1 (just b u z).2).elim
    have spaces : ∀ {b : Addr} {m : Str → Option Value}, s0.heap.Ns b m → (hidT s0.heap H).Ns b m := fun {b m} h => by
      obtain ⟨o, es, ep, e, d, r⟩ := h
      refine ⟨o, es, ep, hidT_get e (free fun z _ => ?_), d, r⟩
      subst z
      rw [sc] at e
      cases e
      cases d
    have inB : K.In (hidT s0.heap H) := fun b o e => hidT_get (inK b o e) (free fun z n => by
      subst z
      rw [n] at e
      cases e)
    have md : Mod K mg (hidT s0.heap H) := by
      obtain ⟨mc, n1, n2⟩ := nl
      exact ⟨inB, spaces gl, ⟨mb, spaces bl, bb⟩, ⟨mc, spaces n1, n2⟩⟩
    have en : Env0 P w K mg (hidT s0.heap H) callerA [] s0 H := ⟨rfl, md, fun b o e => of_hidT e, Nat.le_of_eq (hidT_size _ _), trivial, (fun b z => nomatch (show b ∈ ([] : List Addr) from z)), hok, .of_eq ng⟩
    refine codeAny_mono ((F _ inB (spaces gl)).goes callerA [] s0 H ⟨[.ref a], []⟩ [.ref a] [.ref a] _ _ room rfl en (bd s0 (.ref a)) (.cons rfl .nil) (hsp H only seq)) fun r s2 h => ?_
    match r, h with
    | .error e, h => exact (h : False).elim
    | .ok .next, h => exact (h : False).elim
    | .ok .brk, h => exact (h : False).elim
    | .ok .cont, h => exact (h : False).elim
    | .ok (.ret u), h =>
      obtain ⟨v, H2, os, bare, un, hok2, rv, rfl⟩ := h
      obtain rfl : u = Value.bool true := rv
      refine ⟨rfl, OldK.of_keep fun b o e => ?_, os, bare⟩
      rcases only b with z | ⟨ob, xs, z⟩
      · exact un.keep b o e z (fun m => nomatch (show b ∈ ([] : List Addr) from m)) (fun m => nomatch m)
      · have e1 := (hok b _ z).1
        have e2 := (hok2 b _ (un.frzs b ob _ z)).1
        rw [e] at e1
        cases e1
        exact e2
  cases own : K.lookup a with
  | some o =>
    have e := inK a o own
    rw [sc] at e
    cases e
    exact main (fun _ => none) (fun _ => .inl rfl) (.inr ⟨_, us.toArray, _, own, rfl, rfl, rfl, by rw [List.size_toArray, hin.length]; exact short, by simpa using rel⟩) (fun b u z => nomatch z) (fun b u z => nomatch z)
  | none =>
    refine main (fun b => if b = a then some (.frz { cls := .type "list", data := .seq us.toArray } (.lst (ns.map V.int))) else none) (fun b => ?_) (.inl (.inr ⟨{ cls := .type "list", data := .seq us.toArray }, if_pos rfl⟩)) (fun b u z => ?_) (fun b u z => ?_)
    · by_cases e : b = a
      · exact .inr ⟨_, _, if_pos e⟩
      · exact .inl (if_neg e)
    · by_cases e : b = a
      · have z2 := (if_pos e).symm.trans z
        cases z2
        subst e
        exact ⟨sc, by rw [List.length_map]; exact short, us, _, rel, sc⟩
      · exact nomatch ((if_neg e).symm.trans z)
    · by_cases e : b = a
      · exact ⟨e, own⟩
      · exact nomatch ((if_neg e).symm.trans z)
theorem walk_G {l : PySem.W.OpenLaw} {n k : Nat} {q : Program} {loose : List Str} {XP : (Str → Option Value) → Heap → Prop} {YP : World → Heap → Prop} {d : DefRec} {K : Params → PySem.W.Frag} {sp : World → Sp} {x : Str}
    (most : l.most = some n) (n2 : n ≤ sizeLine) (nd : d.params.defaults = []) (room : Room k callerA) (hY : ∀ (w : World) (h : Heap), YP w h → (K w.params).In h)
    (F : ∀ (w : World) (mg : Str → Option Value) (fa : Addr) (h : Heap), (K w.params).In h → h.Ns mainGlobals mg → mg d.name = some (.ref fa) →
      ∃ fd : FuncData, (∀ (s : Shared) (u : Value), BindsTo s fd ⟨[u], []⟩ [(x, u)]) ∧ ∀ base : Heap, (K w.params).In base → base.Ns mainGlobals mg → FnG l.prog w (K w.params) mg base k fa fd [x] (sp w))
    (hsp : ∀ (w : World) (H : Hp) (a : Addr) (ns : List Int), ns.length ≤ n → Only H → SqL (K w.params) H a (ns.map V.int) → sp w [.ref a] H (fun v _ => v = .bl true) E0) :
    PySem.W.WalkO q loose XP YP l.row.toRowW d [] (fun f vs => PySem.call f vs) := by
  refine Att.attach_call most nd fun w sA sB mg mb fa o pm cd doc a us ns G Y ho hd hcd hmg hobj hints hlen hg => ?_
  obtain ⟨fd, hb, hF⟩ := F w mg fa _ (hY w _ Y) G.T.g hmg
  exact lawG (hY w _ Y) G.T.g G.T.b G.T.builtins G.T.nolimit hg hobj hints (Nat.le_trans hlen n2) room hF hb fun H only seq => hsp w H a ns hlen only seq
end Rt
namespace Rt
open PySem PySem.Spec PyProof.Rows L2
theorem at_new {H H' : Hp} {p : Addr} {o : HO} (e : H' = upd H p o) : H' p = some o := by
  rw [e]
  exact upd_same
theorem SqT.frz {K : PySem.W.Frag} {H : Hp} {a : Addr} {o : Obj} {xs : List V} (h : H a = some (.frz o (.tup xs))) : SqT K H a xs := .inl (.inr ⟨o, h⟩)
section
variable {X : Cx}
/-- tuple(list), its object known -/
def rTupF (K : PySem.W.Frag) : List V → Hp → VK → Prop := fun xs H Q => ∃ p ys, xs = [.ref p] ∧ SqL K H p ys ∧ ∀ l o H', H l = none → o.dict = none → H' = upd H l (.frz o (.tup ys)) → Q (.ref l) H'
theorem call_tupF : CallR X (.type "tuple") (rTupF X.K) := by
  intro pn s σ H xs us Q I r h
  obtain ⟨p, ys, rfl, hq, q⟩ := h
  obtain ⟨u, rfl, rx⟩ := vals1 r
  cases rx
  obtain ⟨its, r', pl, hz⟩ := I.list hq
  have hln := r'.length
  refine call_tuple_list pl.isList (fun h2 kp => ?_) (by simp only [List.size_toArray] <;> omega)
  have J : Inv X pn σ H { s with heap := h2 } := I.kept (t' := s.toks) kp
  have J2 : Inv X pn σ (upd H h2.objs.size (.frz { cls := .type "tuple", data := .seq its.toArray } (.tup ys))) { s with heap := h2.push { cls := .type "tuple", data := .seq its.toArray } } :=
    J.laid (t' := s.toks) (fun b o e => Heap.get?_push_of_some _ e) (Nat.le_refl _) (show ObjOk X.prog X.w _ _ _ (.frz { cls := .type "tuple", data := .seq its.toArray } (.tup ys)) from ⟨Heap.get?_push_size _ rfl, hz, its, r', IsTup.new _ _⟩)
  exact ⟨.ref h2.objs.size, _, J2, rfl, q _ _ _ (J.hok.fresh (Nat.le_refl _)) rfl rfl⟩
/-- t.index(z) of such a tuple of texts -/
def tIdxF (K : PySem.W.Frag) (to : TE) (t : TA) : TE := fun σ H Q => to σ H fun x H1 => ∃ p o, ∃ ys : List Str, x = .ref p ∧ H1 p = some (.frz o (.tup (ys.map V.str))) ∧ o.dict = none ∧ t σ H1 fun xs H2 => ∃ z j, xs = [.str z] ∧ SqT K H2 p (ys.map V.str) ∧ ys[j]? = some z ∧ (∀ m, m < j → ys[m]? ≠ some z) ∧ Q (.int (j : Nat)) H2
theorem pe_idxF {ob e : Expr} {to : TE} {t : TA} {apos cpos : Pos} (ho : PE X ob to) (ha : PA X [e] t)
    (hbase : attributeBase ob "index" X.env (eval ob X.env) = eval ob X.env := by rfl)
    (hfew : ((backTo cpos (starEach [e] X.env)).all (fun x => !x.1) && (backToKw cpos (keywordEach [] X.env)).all (fun x => x.1.isSome) && decide (([e] : List Expr).length + ([] : List Keyword).length + (if ([] : List Keyword).isEmpty then 0 else 1) < 30)) = true := by rfl)
    (hline : (apos.endLine == cpos.line) = true := by rfl) (hs : starEach [e] X.env = (false, eval e X.env) :: starEach [] X.env := by rfl) (hplain : (backTo cpos (starEach [] X.env)).any (·.1) = false := by rfl) :
    PE X (.Call (.Attribute ob "index" apos) [e] [] cpos) (tIdxF X.K to t) := by
  refine ⟨fun pn s σ H Q I h => wpAny_Call_method_late hbase hfew hline rfl (thn (ho.run pn s σ H _ I h) fun v s1 done => ?_)⟩
  obtain ⟨x, H1, I1, r1, p, o, ys, rfl, hp, hd, q1⟩ := done
  obtain ⟨he, _, its, _, hT⟩ := I1.hok p _ hp
  have ev : v = Value.ref p := by cases r1; rfl
  refine ⟨"tuple", "tuple.index", PySem.F.plainAttrs_tuple, PySem.F.slot_tuple_index, PySem.F.type_tuple_index, by rw [ev]; exact hT.typeIs, fun a z => ?_, ?_⟩
  · rw [ev] at z
    cases z
    exact ⟨o, he, hd⟩
  have hA := ha.run cpos pn s1 σ H1 _ I1 q1
  rw [hs] at hA ⊢
  refine Calls.callWith_builtin (by show (false || (backTo cpos (starEach [] X.env)).any (·.1)) = false; rw [hplain] <;> rfl) (Calls.evalArgs_plain (thn hA fun us s2 more => ?_))
  obtain ⟨vs, H2, I2, r2, z, j, e1, e2, e3, e4, q2⟩ := more
  exact mt_tup_index pn s2 σ H2 (.ref p) vs v us Q I2 r1 r2 ⟨p, ys, z, j, rfl, e1, e2, e3, e4, q2⟩
end
end Rt
namespace Rt
open PySem PySem.Spec PyProof.Rows L2
/-! ### enumerate(tuple) -/
theorem new_enum {v : Value} {o : Obj} {Hq : Heap → Prop} (B : Begins v o Hq) :
    Meets (Builtin.«enumerate.__new__» ⟨[.type "enumerate", v], []⟩) (fun _ R s => Hq s.heap ∧
      R (.ok (.ret (.ref (s.heap.push o).objs.size))) { s with heap := (s.heap.push o).push { cls := .type "enumerate", data := .fields #[.none, .bool false, .ref s.heap.objs.size, rawInt 0, .none, .none] } }) :=
  .of_wp fun prog w A R s h => by
    obtain ⟨hp, gn, dr, tk, os⟩ := s; obtain ⟨hq, h⟩ := h
    have sub := sub_enumerate
    have it : ∀ {A2 : Around} {E : Value → Shared → Prop} {Q : Value → Shared → Prop}, Q (.ref hp.objs.size) ⟨hp.push o, gn, dr, tk, os⟩ → wpAny (model prog w) A2 (pyIter v) Q E ⟨hp, gn, dr, tk, os⟩ :=
      fun q => B.iter prog w _ _ ⟨hp, gn, dr, tk, os⟩ _ hq q
    wp_walk using it
    refine wpAny_stack_any fun st => wpAny_pure ?_
    split
    · rename_i c _ _ _ _ _
      cases (c == Value.type "enumerate")
      all_goals (wp_walk using it; exact ⟨_, rfl, h⟩)
    · wp_walk using it
      exact ⟨_, rfl, h⟩
section
variable {prog : Program} {w : World} {A : Around} {E : Value → Shared → Prop} {s : Shared}
theorem call_enum {v : Value} {o : Obj} {Hq : Heap → Prop} {Q : Value → Shared → Prop} (B : Begins v o Hq) (hq : Hq s.heap)
    (h : ∀ h2, IsEnum h2 (s.heap.objs.size + 1) s.heap.objs.size 0 .none → h2.get? s.heap.objs.size = some o → (∀ b ob, s.heap.get? b = some ob → h2.get? b = some ob) → Q (.ref (s.heap.objs.size + 1)) { s with heap := h2 }) :
    wpAny (model prog w) A (call (.type "enumerate") [v]) Q E s := by
  refine callType_new F.called_enumerate (by decide) (F.typeCall_enumerate_1 _) (F.newCall_enumerate_1 _) (fun obj => F.args_object_init_2 obj _) F.entry_enumerate_new (new_enum B) ⟨hq, ?_⟩
  have sz1 : (s.heap.push o).objs.size = s.heap.objs.size + 1 := Heap.size_push ..
  have en : IsEnum ((s.heap.push o).push { cls := .type "enumerate", data := .fields #[.none, .bool false, .ref s.heap.objs.size, rawInt 0, .none, .none] }) (s.heap.objs.size + 1) s.heap.objs.size 0 .none := by
    have z := Heap.get?_push_size (s.heap.push o) (o := { cls := .type "enumerate", data := .fields #[.none, .bool false, .ref s.heap.objs.size, rawInt 0, .none, .none] }) rfl
    rwa [sz1] at z
  show _ ∧ _
  rw [sz1]
  exact ⟨⟨_, en, rfl⟩, h _ en (Heap.get?_push_of_some _ (Heap.get?_push_size _ B.free)) fun b ob z => Heap.get?_push_of_some _ (Heap.get?_push_of_some _ z)⟩
end
/-- the tuple at a as it stands at each turn, each item in a new pair -/
def IteT (K : PySem.W.Frag) (a : Addr) : It :=
  ⟨fun i H => ∃ (xs : List V) (x : V), SqT K H a xs ∧ xs[i]? = some x, fun i H v H' => ∃ T x, v = .ref T ∧ H T = none ∧ H' = upd H T (.tup [.int (i : Nat), x]) ∧ ∀ xs, SqT K H a xs → xs[i]? = some x, fun i H => ∃ xs : List V, SqT K H a xs ∧ xs.length = i⟩
theorem turn_enumT {P : Program} {w : World} {K : PySem.W.Frag} {elts : List Expr} {kk : Nat} {tpos : Pos} (a e it : Addr) :
    Turn P w K (.Tuple elts kk tpos) (IteT K a) [e, it] e (fun i h => (∃ old, IsEnum h e it ((i : Nat) : Int) old) ∧ h.IsTupleIter it a i ∧ e ≠ it ∧ a ≠ it ∧ a ≠ e) where
  mem := by simp
  obj := by
    rintro i h ⟨⟨old, he⟩, ⟨o, ho, hc, hd⟩, _⟩ b hb
    rcases (by simpa using hb : b = e ∨ b = it) with rfl | rfl
    · exact ⟨_, he, fun v q => nomatch q⟩
    · exact ⟨o, ho, fun v q => by rw [hd] at q; cases q⟩
  keep := by
    rintro i h h2 ⟨⟨old, he⟩, hi, ne⟩ k
    exact ⟨⟨old, k e (by simp) _ he⟩, hi.at fun o q => k it (by simp) o q, ne⟩
  item := by
    intro X hP hw hK hc i pn s σ H E I hf st hg
    subst hP hw hK
    obtain ⟨⟨old, he⟩, hit, ne, nai, nae⟩ := st
    obtain ⟨xs, x, hq, hx⟩ := hg
    obtain ⟨its, rv, tp, hz⟩ := I.tuple hq
    obtain ⟨u, hu, ru⟩ := rv.get hx
    have hel : e < s.heap.objs.size := Heap.lt_size he
    have hil : it < s.heap.objs.size := by obtain ⟨_, q, _⟩ := hit; exact Heap.lt_size q
    have hlt : i < its.toArray.size := by simpa using (List.getElem?_eq_some_iff.mp hu).1
    refine wpAny_pyNext_enum_itemD (Draws.tuple (A := X.A.in1) (I.ok.hd hc) it a nai its.toArray) he ⟨hit, tp⟩ hlt ne (by simp [ne, Ne.symm nae]) fun y h2 tk hy ho hst hT hsz hk => ?_
    have eu : y = u := by
      have : its.toArray[i]? = some u := by simpa using hu
      rw [this] at hy
      exact (Option.some.inj hy).symm
    subst eu
    refine ⟨_, rfl, wpAny_letOwnedTupleGo_enum (s := { s with heap := h2, toks := tk + 1 }) ho fun h3 he3 sb => ?_⟩
    have hT3 : h3.get? s.heap.objs.size = some { cls := .type "tuple", data := .seq #[.int i tk, y] } := (sb.2 _ (Nat.ne_of_gt hel)).trans hT
    have fresh : ObjOk X.prog X.w (upd H s.heap.objs.size (.tup [.int (i : Nat), x])) h3 s.heap.objs.size (.tup [.int (i : Nat), x]) :=
      ⟨sz (n := 2) (by decide), [.int i tk, y], .cons ⟨_, rfl⟩ (.cons ru .nil), ⟨_, hT3, rfl, _, rfl⟩⟩
    have J : Inv X pn σ (upd H s.heap.objs.size (.tup [.int (i : Nat), x])) { s with heap := h3, toks := tk + 1 } :=
      I.turnedNew (ch := [e, it]) (fun b ob hb q => (sb.2 b (fun z => hb (by simp [z]))).trans (hk b ob (fun z => hb (by simp [z])) (fun z => hb (by simp [z])) q)) hf (Nat.le_refl _) fresh
    have ci : ((i + 1 : Nat) : Int) = (i : Int) + 1 := by omega
    refine ⟨.ref s.heap.objs.size, _, J, rfl, ⟨_, x, rfl, I.hok.fresh (Nat.le_refl _), rfl, fun ys hy2 => by rw [I.tuple_inj hy2 hq]; exact hx⟩, ⟨⟨y, by rw [ci]; exact he3⟩, hst.1.at fun o q => (sb.2 it (Ne.symm ne)).trans q, ne, nai, nae⟩, fun b hb => ?_⟩
    have lt : b < s.heap.objs.size := by
      rcases (by simpa using hb : b = e ∨ b = it) with rfl | rfl
      · exact hel
      · exact hil
    rw [upd_ne (Nat.ne_of_lt lt)]
    exact (hf b hb).1
  done := by
    intro X hP hw hK hc i pn s σ H E I hf st hg
    subst hP hw hK
    obtain ⟨⟨old, he⟩, hit, ne, nai, nae⟩ := st
    obtain ⟨xs, hq, hx⟩ := hg
    obtain ⟨its, rv, tp, hz⟩ := I.tuple hq
    obtain ⟨f0, f1, f2, f3, f4, f5⟩ := hf it (by simp)
    have en : i = its.toArray.size := by rw [List.size_toArray, ← rv.length, hx]
    exact wpAny_pyNext_enum_endD (Draws.tuple (A := X.A.in1) (I.ok.hd hc) it a nai its.toArray) he ⟨by rw [← en]; exact hit, tp⟩ fun h2 eb => ⟨rfl, I.turned (t' := s.toks) (fun b o hb q => eb b o hb q) f0 f1 f3 f4 f5⟩
  self := by
    rintro A i s Q E ⟨⟨_, he⟩, _⟩ h
    exact wpAny_pyIter_enum he h
def iEnumT (K : PySem.W.Frag) (ta : TA) : TI := fun σ H R => ta σ H fun vs H1 => ∃ a xs, vs = [.ref a] ∧ SqT K H1 a xs ∧ R (IteT K a) H1
theorem pi_enumT {X : Cx} {e : Expr} {ta : TA} {p pos tpos : Pos} {elts : List Expr} {kk : Nat} (hg : Gl X "enumerate") (hm : X.mg "enumerate" = none) (ha : PA X [e] ta) (hs : starEach [e] X.env = [(false, eval e X.env)] := by rfl) :
    PI X (.Tuple elts kk tpos) (.Call (.Name "enumerate" p) [e] [] pos) (iEnumT X.K ta) := by
  refine ⟨fun pn s σ H R I h => Call_ (ld_blt I hg hm boot_enumerate (PyProof.Rows.callWith_type1 (thn (ha.run pos pn s σ H _ I h) fun us s1 done => ?_) hs rfl))⟩
  obtain ⟨vs, H1, J, r1, a, xs, rfl, hq, q⟩ := done
  obtain ⟨u, rfl, rx⟩ := vals1 r1
  cases rx
  obtain ⟨its, rv, tp, hz⟩ := J.tuple hq
  have hal : a < s1.heap.objs.size := by obtain ⟨_, z, _⟩ := tp; exact Heap.lt_size z
  refine call_enum (begins_tuple a its.toArray) tp fun h2 he hit hk => wpAny_pyIter_enum he ?_
  refine ⟨s1.heap.objs.size + 1, [s1.heap.objs.size + 1, s1.heap.objs.size], _, _, H1, rfl, J.kept (t' := s1.toks) hk, turn_enumT a (s1.heap.objs.size + 1) s1.heap.objs.size, ⟨⟨.none, he⟩, ⟨_, hit, rfl, rfl⟩, Nat.succ_ne_self _, Nat.ne_of_lt hal, Nat.ne_of_lt (Nat.lt_succ_of_lt hal)⟩, fun b hb => ?_, q⟩
  have le : s1.heap.objs.size ≤ b := by
    rcases (by simpa using hb : b = s1.heap.objs.size + 1 ∨ b = s1.heap.objs.size) with rfl | rfl
    · exact Nat.le_succ _
    · exact Nat.le_refl _
  exact J.fpOk le (J.hok.fresh le)
theorem walk_enumT {K : PySem.W.Frag} {a : Addr} {xs : List V} : Walk (IteT K a) xs.length (fun H => SqT K H a xs) (YPair (fun i => some (.int (i : Nat))) (fun i => xs[i]?)) := by
  refine ⟨fun i H hi z => ⟨xs, xs[i], z, by simp [hi]⟩, fun H z => ⟨xs, z, rfl⟩, fun i H v H' hi z y => ?_⟩
  obtain ⟨T, x, h1, h2, h3, h4⟩ := y
  exact ⟨T, .int (i : Nat), x, h1, h2, h3, rfl, h4 xs z⟩
end Rt
namespace Rt
open PySem PySem.Spec PyProof.Rows L2
/-! ### tuple * 1 -/
theorem tuple_mul1 (l : Addr) (items : Array Value) (n : Nat) (dd : Option Addr) (sl : Array (Option Value)) (u : Tok) (c1 : (items.isEmpty || (1 : Int) == 1) = true) :
    Meets (Builtin.«tuple.__mul__» ⟨[.ref l, .int 1 u], []⟩) (fun _ R s => s.heap.get? l = some { cls := .type "tuple", dict := dd, data := .seq items n, slots := sl } ∧
      R (.ok (.ret (Value.ref l))) s) :=
  .of_wp fun prog w A R s h => by
    obtain ⟨hp, g, d, tk, os⟩ := s
    obtain ⟨hl, h⟩ := h
    have f1 := AutoSeq1.idx_int
    have c0 : (decide ((1 : Int) < -(2 ^ 63)) || decide ((1 : Int) ≥ 2 ^ 63)) = false := by decide
    wp_walk using wpAny_loadPart' hl
    repeat (first
      | (refine wpAny_ite_false (decide_eq_false (by rw [c0]; exact Bool.false_ne_true)) ?_; wp_walk using wpAny_loadPart' hl)
      | (refine wpAny_ite_true (decide_eq_true c1) ?_; wp_walk using wpAny_loadPart' hl))
    exact ⟨_, rfl, h⟩
theorem smN {H : Hp} {p : Addr} {o : HO} (h : H p = none) : Same H (upd H p o) := fun b x e => by
  rw [upd_ne (ne_of_none e h)]
  exact e
section
variable {X : Cx}
/-- t * k -/
def rRepS1 : R2 := fun x y H Q => ∃ l k xs, x = .ref l ∧ y = .int k ∧ H l = some (.tup xs) ∧ xs ≠ [] ∧ 1 ≤ k ∧ k ≤ 1000 ∧ xs.length ≤ 1000 ∧ ∀ p H', Same H H' → H' p = some (.tup (List.replicate k.toNat xs).flatten) → Q (.ref p) H'
theorem op_repS1 : OpR X (binaryOp .Mult) rRepS1 := by
  intro pins s σ H x y v u Q I rx ry h
  obtain ⟨l, k, xs, rfl, rfl, hT, hne, h1, h2, hz, q⟩ := h
  by_cases e : k = 1
  · subst e
    cases rx
    obtain ⟨t, rfl⟩ := ry
    obtain ⟨its, r, ⟨⟨cls, dd, data, sl⟩, ho, hc, n, hd⟩, hs⟩ := I.tuple (SqT.of hT)
    simp only at hc hd
    subst hc hd
    refine wpAny_binaryOp_repeat_ref (T := "tuple") (U := "int") (by decide) ⟨_, ho, rfl⟩ (fun s' => typeIs_int s' 1 t) noFill_tuple_mul F.fills_int_mul F.slot_int_rmul repeat_tuple F.slot_int_index.lookup
      (call_meets F.slot_int_rmul (typeIs_int s 1 t) F.entry_int_rmul (F.args_int_rmul_2 _ _) (int_rmul_tuple 1 t l its.toArray n dd sl)
        ⟨ho, rfl, ⟨_, ho, rfl⟩, call_meets F.slot_tuple_mul ⟨_, ho, rfl⟩ F.entry_tuple_mul (F.args_tuple_mul_2 _ _) (tuple_mul1 l its.toArray n dd sl t (by simp)) ⟨ho, ?_⟩⟩)
    refine ⟨.ref l, H, I, rfl, q l H (Same.refl H) ?_⟩
    rw [hT]
    simp
  · exact op_repT pins s σ H _ _ v u Q I rx ry ⟨l, k, xs, rfl, rfl, SqT.of hT, hne, by omega, h2, hz, fun p np => q p _ (smN np) upd_same⟩
/-- t + u -/
def rCatS : R2 := fun x y H Q => ∃ a b xs ys, x = .ref a ∧ y = .ref b ∧ H a = some (.tup xs) ∧ H b = some (.tup ys) ∧ xs.length + ys.length ≤ 1000 ∧ ∀ p H', Same H H' → H' p = some (.tup (xs ++ ys)) → Q (.ref p) H'
theorem op_catS : OpR X (binaryOp .Add) rCatS := by
  intro pins s σ H x y v u Q I rx ry h
  obtain ⟨a, b, xs, ys, rfl, rfl, ha, hb, hz, q⟩ := h
  refine op_catA pins s σ H _ _ v u Q I rx ry ⟨a, b, xs, ys, rfl, rfl, SqT.of ha, SqT.of hb, sz (by omega), fun e => q b H (Same.refl H) ?_, fun _ e => q a H (Same.refl H) ?_, fun _ _ p np => q p _ (smN np) upd_same⟩
  · rw [hb, e]; rfl
  · rw [ha, e, List.append_nil]
/-- t[lo:hi] -/
def rSlS : V → Option Int → Option Int → Hp → VK → Prop := fun x lo hi H Q => ∃ a xs, x = .ref a ∧ H a = some (.tup xs) ∧ ∀ p H', Same H H' → H' p = some (.tup (cutV xs lo hi)) → Q (.ref p) H'
theorem sl_tupS : SlR X rSlS := by
  intro pins s σ H x v vl vu lo hi sl Q I rx hs pl pu h
  obtain ⟨a, xs, rfl, ha, q⟩ := h
  refine sl_tupA pins s σ H _ v vl vu lo hi sl Q I rx hs pl pu ⟨a, xs, rfl, SqT.of ha, fun hw => q a H (Same.refl H) ?_, fun _ p np => q p _ (smN np) upd_same⟩
  rw [ha]
  unfold cutV
  rw [hw.1, hw.2, List.drop_zero, Nat.sub_zero, List.take_length]
end
theorem cut_lo {xs : List V} {m : Nat} (h : m ≤ xs.length) : cutV xs none (some (m : Int)) = xs.take m := by
  unfold cutV
  rw [HT.sIx_none, HT.sIx_nat, List.drop_zero, Nat.sub_zero, Nat.min_eq_left h]
theorem cut_hi {xs : List V} {m : Nat} (h : m ≤ xs.length) : cutV xs (some (m : Int)) none = xs.drop m := by
  unfold cutV
  rw [HT.sIx_none, HT.sIx_nat, Nat.min_eq_left h, List.take_of_length_le (by rw [List.length_drop]; omega)]
theorem set_cut {xs : List V} {m : Nat} {v : V} (h : m < xs.length) : xs.take m ++ [v] ++ xs.drop (m + 1) = xs.set m v := by
  rw [List.set_eq_take_append_cons_drop, if_pos h, List.append_assoc]
  rfl
end Rt
namespace Dl
open PySem PySem.Spec PyProof.Rows L2 Rt
abbrev D := PyData
/-! ### data at values -/
def TupF (H : Hp) (a : Addr) (xs : List V) : Prop := ∃ o : Obj, H a = some (.frz o (.tup xs)) ∧ o.dict = none
mutual
inductive Rp (M : Addr → Prop) (H : Hp) : V → D → Prop
  | non : Rp M H .non .none
  | bl (b : Bool) : Rp M H (.bl b) (.bool b)
  | int (i : Int) : Rp M H (.int i) (.int i)
  | str (x : Str) (h : x.length ≤ sizeLine) : Rp M H (.str x) (.str x)
  | tup {a : Addr} {xs : List V} {ds : List D} : TupF H a xs → ¬ M a → xs.length ≤ sizeLine → RpAll M H xs ds → Rp M H (.ref a) (.tuple ds)
  | lst {a : Addr} {xs : List V} {ds : List D} : H a = some (.lst xs) → ¬ M a → xs.length ≤ sizeLine → RpAll M H xs ds → Rp M H (.ref a) (.list ds)
  | dic {a : Addr} : H a = some (.dK []) → ¬ M a → Rp M H (.ref a) (.dict [])
inductive RpAll (M : Addr → Prop) (H : Hp) : List V → List D → Prop
  | nil : RpAll M H [] []
  | cons {v : V} {vs : List V} {d : D} {ds : List D} : Rp M H v d → RpAll M H vs ds → RpAll M H (v :: vs) (d :: ds)
end
def KpM (M : Addr → Prop) (H H' : Hp) : Prop := ∀ p o, ¬ M p → H p = some o → H' p = some o
theorem KpM.of {M : Addr → Prop} {H H' : Hp} (s : Same H H') : KpM M H H' := fun p o _ e => s p o e
theorem KpM.refl {M : Addr → Prop} {H : Hp} : KpM M H H := fun p o _ e => e
def Dom (M : Addr → Prop) (H : Hp) : Prop := ∀ p, M p → H p ≠ none
theorem Dom.mono {M : Addr → Prop} {H H' : Hp} (d : Dom M H) (s : Same H H') : Dom M H' := fun p m e => by
  cases z : H p with
  | none => exact d p m z
  | some o => rw [s p o z] at e; cases e
theorem Dom.not {M : Addr → Prop} {H : Hp} {p : Addr} (d : Dom M H) (e : H p = none) : ¬ M p := fun m => d p m e
mutual
theorem Rp.mono {M : Addr → Prop} {H H' : Hp} (k : KpM M H H') : ∀ {v : V} {d : D}, Rp M H v d → Rp M H' v d
  | _, _, .non => .non
  | _, _, .bl b => .bl b
  | _, _, .int i => .int i
  | _, _, .str x h => .str x h
  | _, _, .tup ⟨o, e, z⟩ n l h => .tup ⟨o, k _ _ n e, z⟩ n l (RpAll.mono k h)
  | _, _, .lst e n l h => .lst (k _ _ n e) n l (RpAll.mono k h)
  | _, _, .dic e n => .dic (k _ _ n e) n
theorem RpAll.mono {M : Addr → Prop} {H H' : Hp} (k : KpM M H H') : ∀ {vs : List V} {ds : List D}, RpAll M H vs ds → RpAll M H' vs ds
  | _, _, .nil => .nil
  | _, _, .cons h t => .cons (Rp.mono k h) (RpAll.mono k t)
end
mutual
theorem Rp.reM {M M' : Addr → Prop} {H : Hp} (k : ∀ a, M' a → M a ∨ H a = none) : ∀ {v : V} {d : D}, Rp M H v d → Rp M' H v d
  | _, _, .non => .non
  | _, _, .bl b => .bl b
  | _, _, .int i => .int i
  | _, _, .str x h => .str x h
  | _, _, .tup ⟨o, e, z⟩ n l h => .tup ⟨o, e, z⟩ (fun m => (k _ m).elim n (fun q => by rw [q] at e; cases e)) l (RpAll.reM k h)
  | _, _, .lst e n l h => .lst e (fun m => (k _ m).elim n (fun q => by rw [q] at e; cases e)) l (RpAll.reM k h)
  | _, _, .dic e n => .dic e (fun m => (k _ m).elim n (fun q => by rw [q] at e; cases e))
theorem RpAll.reM {M M' : Addr → Prop} {H : Hp} (k : ∀ a, M' a → M a ∨ H a = none) : ∀ {vs : List V} {ds : List D}, RpAll M H vs ds → RpAll M' H vs ds
  | _, _, .nil => .nil
  | _, _, .cons h t => .cons (Rp.reM k h) (RpAll.reM k t)
end
theorem TupF.sq {K : PySem.W.Frag} {H : Hp} {a : Addr} {xs : List V} (h : TupF H a xs) : SqT K H a xs := by
  obtain ⟨o, e, _⟩ := h
  exact .inl (.inr ⟨o, e⟩)
mutual
theorem Rp.dp {K : PySem.W.Frag} {M : Addr → Prop} {H : Hp} : ∀ {v : V} {d : D}, Rp M H v d → d.hasDict = false → Dp K H v d
  | _, _, .non, _ => .non
  | _, _, .bl b, _ => .bl b
  | _, _, .int i, _ => .int i
  | _, _, .str x h, _ => .str x
  | _, _, .tup t n l h, e => .tup t.sq (RpAll.dp h e)
  | _, _, .lst t n l h, e => .lst (SqL.of t) (RpAll.dp h e)
  | _, _, .dic t n, e => nomatch e
theorem RpAll.dp {K : PySem.W.Frag} {M : Addr → Prop} {H : Hp} : ∀ {vs : List V} {ds : List D}, RpAll M H vs ds → PyData.hasDictAll ds = false → DpAll K H vs ds
  | _, _, .nil, _ => .nil
  | _, _, .cons h t, e => by
    have e2 := Bool.or_eq_false_iff.mp e
    exact .cons (Rp.dp h e2.1) (RpAll.dp t e2.2)
end
theorem RpAll.len {M : Addr → Prop} {H : Hp} : ∀ {vs : List V} {ds : List D}, RpAll M H vs ds → vs.length = ds.length
  | _, _, .nil => rfl
  | _, _, .cons _ t => congrArg (· + 1) t.len
theorem RpAll.get {M : Addr → Prop} {H : Hp} : ∀ {vs : List V} {ds : List D} {i : Nat} {d : D}, RpAll M H vs ds → ds[i]? = some d → ∃ v, vs[i]? = some v ∧ Rp M H v d
  | _, _, _, _, .nil, e => nomatch e
  | _, _, 0, _, .cons h t, e => by cases e; exact ⟨_, rfl, h⟩
  | _, _, i + 1, _, .cons h t, e => t.get (i := i) e
theorem RpAll.getV {M : Addr → Prop} {H : Hp} : ∀ {vs : List V} {ds : List D} {i : Nat} {v : V}, RpAll M H vs ds → vs[i]? = some v → ∃ d, ds[i]? = some d ∧ Rp M H v d
  | _, _, _, _, .nil, e => nomatch e
  | _, _, 0, _, .cons h t, e => by cases e; exact ⟨_, rfl, h⟩
  | _, _, i + 1, _, .cons h t, e => t.getV (i := i) e
theorem RpAll.app {M : Addr → Prop} {H : Hp} : ∀ {vs ws : List V} {ds es : List D}, RpAll M H vs ds → RpAll M H ws es → RpAll M H (vs ++ ws) (ds ++ es)
  | _, _, _, _, .nil, b => b
  | _, _, _, _, .cons h t, b => .cons h (t.app b)
theorem RpAll.drop {M : Addr → Prop} {H : Hp} : ∀ {vs : List V} {ds : List D} (n : Nat), RpAll M H vs ds → RpAll M H (vs.drop n) (ds.drop n)
  | _, _, 0, h => h
  | _, _, n + 1, .nil => .nil
  | _, _, n + 1, .cons h t => t.drop n
theorem RpAll.take {M : Addr → Prop} {H : Hp} : ∀ {vs : List V} {ds : List D} (n : Nat), RpAll M H vs ds → RpAll M H (vs.take n) (ds.take n)
  | _, _, 0, h => .nil
  | _, _, n + 1, .nil => .nil
  | _, _, n + 1, .cons h t => .cons h (t.take n)
theorem RpAll.set {M : Addr → Prop} {H : Hp} {v : V} {d : D} (h : Rp M H v d) : ∀ {vs : List V} {ds : List D} (n : Nat), RpAll M H vs ds → RpAll M H (vs.set n v) (ds.set n d)
  | _, _, n, .nil => .nil
  | _, _, 0, .cons _ t => .cons h t
  | _, _, n + 1, .cons g t => .cons g (RpAll.set h n t)
/-! ### the slots -/
inductive LV
  | dat (d : D)
  | own (ds : List D)
  | raw (v : V)
  | pool
abbrev Rho := List (Option LV)
/-- what may not be part of data: the caller's own lists, and the def's -/
def Mu (μ : Bool) (M0 : Addr → Prop) (σ : L2.St) (ρ : Rho) (p : Addr) : Prop := M0 p ∨ (μ = true ∧ ∃ (i : Nat) (ds : List D), ρ[i]? = some (some (.own ds)) ∧ σ[i]? = some (some (.ref p)))
structure Rs (M0 : Addr → Prop) (H0 H : Hp) (σ : L2.St) (ρ : Rho) : Prop where
  sm : Same H0 H
  dom : Dom M0 H0
  len : ρ.length = σ.length
  dat : ∀ (i : Nat) (d : D), ρ[i]? = some (some (.dat d)) → ∃ v, σ[i]? = some (some v) ∧ Rp (Mu true M0 σ ρ) H v d
  own : ∀ (i : Nat) (ds : List D), ρ[i]? = some (some (.own ds)) → ∃ p vs, σ[i]? = some (some (.ref p)) ∧ H p = some (.lst vs) ∧ H0 p = none ∧ vs.length ≤ sizeLine ∧ RpAll (Mu true M0 σ ρ) H vs ds
  raw : ∀ (i : Nat) (v : V), ρ[i]? = some (some (.raw v)) → σ[i]? = some (some v)
  inj : ∀ (i j : Nat) (a b : List D) (p : Addr), ρ[i]? = some (some (.own a)) → ρ[j]? = some (some (.own b)) → σ[i]? = some (some (.ref p)) → σ[j]? = some (some (.ref p)) → i = j
theorem Rs.mono {M0 : Addr → Prop} {H0 H H' : Hp} {σ : L2.St} {ρ : Rho} (R : Rs M0 H0 H σ ρ) (s : Same H H') : Rs M0 H0 H' σ ρ where
  sm := R.sm.trans s
  dom := R.dom
  len := R.len
  dat := fun i d e => by
    obtain ⟨v, a, b⟩ := R.dat i d e
    exact ⟨v, a, b.mono (.of s)⟩
  own := fun i ds e => by
    obtain ⟨p, vs, a, b, c, l, r⟩ := R.own i ds e
    exact ⟨p, vs, a, s _ _ b, c, l, r.mono (.of s)⟩
  raw := R.raw
  inj := R.inj
theorem Rs.domu {M0 : Addr → Prop} {H0 H : Hp} {σ : L2.St} {ρ : Rho} (R : Rs M0 H0 H σ ρ) (μ : Bool) : Dom (Mu μ M0 σ ρ) H := fun p m e => by
  rcases m with m | ⟨_, i, ds, e1, e2⟩
  · exact R.dom.mono R.sm p m e
  · obtain ⟨q, vs, a, b, _⟩ := R.own i ds e1
    rw [e2] at a
    cases a
    rw [b] at e
    cases e
theorem Mu.up {μ : Bool} {M0 : Addr → Prop} {σ : L2.St} {ρ : Rho} {H : Hp} : ∀ a, Mu μ M0 σ ρ a → Mu true M0 σ ρ a ∨ H a = none := fun a m => .inl (by
  rcases m with m | ⟨_, m⟩
  · exact .inl m
  · exact .inr ⟨rfl, m⟩)
theorem Mu.lo {μ : Bool} {M0 : Addr → Prop} {σ : L2.St} {ρ : Rho} {H : Hp} : ∀ a, M0 a → Mu μ M0 σ ρ a ∨ H a = none := fun a m => .inl (.inl m)
theorem Rp.toMu {μ : Bool} {M0 : Addr → Prop} {σ : L2.St} {ρ : Rho} {H : Hp} {v : V} {d : D} (h : Rp (Mu true M0 σ ρ) H v d) : Rp (Mu μ M0 σ ρ) H v d := h.reM Mu.up
theorem RpAll.toMu {μ : Bool} {M0 : Addr → Prop} {σ : L2.St} {ρ : Rho} {H : Hp} {v : List V} {d : List D} (h : RpAll (Mu true M0 σ ρ) H v d) : RpAll (Mu μ M0 σ ρ) H v d := h.reM Mu.up
theorem some_bind {α β : Type} {o : Option α} {f : α → Option β} {b : β} (h : o.bind f = some b) : ∃ a, o = some a ∧ f a = some b := by
  cases o with
  | none => cases h
  | some a => exact ⟨a, rfl, h⟩
mutual
def nl : D → Bool
  | .tuple ds => nlAll ds
  | .list _ => false
  | .dict _ => false
  | _ => true
def nlAll : List D → Bool
  | [] => true
  | d :: ds => nl d && nlAll ds
end
mutual
theorem Rp.nl {M M' : Addr → Prop} {H : Hp} : ∀ {v : V} {d : D}, Rp M H v d → Dl.nl d = true → (∀ a, M' a → M a ∨ ∃ xs, H a = some (.lst xs)) → Rp M' H v d
  | _, _, .non, _, _ => .non
  | _, _, .bl b, _, _ => .bl b
  | _, _, .int i, _, _ => .int i
  | _, _, .str x h, _, _ => .str x h
  | _, _, .tup ⟨o, e, z⟩ n l h, q, k => .tup ⟨o, e, z⟩ (fun m => (k _ m).elim n (fun ⟨xs, y⟩ => by rw [y] at e; cases e)) l (RpAll.nl h q k)
  | _, _, .lst e n l h, q, k => nomatch q
  | _, _, .dic e n, q, k => nomatch q
theorem RpAll.nl {M M' : Addr → Prop} {H : Hp} : ∀ {vs : List V} {ds : List D}, RpAll M H vs ds → nlAll ds = true → (∀ a, M' a → M a ∨ ∃ xs, H a = some (.lst xs)) → RpAll M' H vs ds
  | _, _, .nil, _, _ => .nil
  | _, _, .cons h t, q, k => by
    have q2 := Bool.and_eq_true_iff.mp q
    exact .cons (Rp.nl h q2.1 k) (RpAll.nl t q2.2 k)
end
/-! ### readings by data -/
abbrev EF := Rho → Option D
def tD (μ : Bool) (f : EF) : TE := fun σ H Q => ∃ M0 H0 ρ d, Rs M0 H0 H σ ρ ∧ f ρ = some d ∧ ∀ v H', Same H H' → Rp (Mu μ M0 σ ρ) H' v d → Q v H'
def tA (μ : Bool) (f : Rho → Option (List D)) : TA := fun σ H Q => ∃ M0 H0 ρ ds, Rs M0 H0 H σ ρ ∧ f ρ = some ds ∧ ∀ vs H', Same H H' → RpAll (Mu μ M0 σ ρ) H' vs ds → Q vs H'
def tT (f : Rho → Option Bool) : TT := fun σ H Q => ∃ M0 H0 ρ b, Rs M0 H0 H σ ρ ∧ f ρ = some b ∧ ∀ H', Same H H' → Q b H'
inductive Out
  | nx (ρ : Rho)
  | rt (d : D)
  | bk (ρ : Rho)
  | ct (ρ : Rho)
/-- a step: what is nobody's own stands, own lists are old ones or new -/
structure Stp (M0 : Addr → Prop) (σ : L2.St) (ρ : Rho) (H : Hp) (σ' : L2.St) (ρ' : Rho) (H' : Hp) : Prop where
  kp : KpM (Mu true M0 σ ρ) H H'
  ow : ∀ p, Mu true M0 σ' ρ' p → Mu true M0 σ ρ p ∨ H p = none
theorem Stp.refl {M0 : Addr → Prop} {σ : L2.St} {ρ : Rho} {H : Hp} : Stp M0 σ ρ H σ ρ H := ⟨.refl, fun p m => .inl m⟩
theorem Stp.trans {M0 : Addr → Prop} {σ σ1 σ2 : L2.St} {ρ ρ1 ρ2 : Rho} {H H1 H2 : Hp} (a : Stp M0 σ ρ H σ1 ρ1 H1) (b : Stp M0 σ1 ρ1 H1 σ2 ρ2 H2) : Stp M0 σ ρ H σ2 ρ2 H2 where
  kp := fun p o n e => b.kp p o (fun m => (a.ow p m).elim n (fun z => by rw [z] at e; cases e)) (a.kp p o n e)
  ow := fun p m => by
    rcases b.ow p m with m1 | z
    · exact a.ow p m1
    · by_cases h : Mu true M0 σ ρ p
      · exact .inl h
      · cases e : H p with
        | none => exact .inr rfl
        | some o => rw [a.kp p o h e] at z; cases z
def tS (f : Rho → Option Out) : TS := fun Dn σ H => ∃ M0 H0 ρ o, Rs M0 H0 H σ ρ ∧ f ρ = some o ∧ (match o with
  | .nx ρ' => ∀ σ' H', Rs M0 H0 H' σ' ρ' → Stp M0 σ ρ H σ' ρ' H' → Dn.nx σ' H'
  | .rt d => ∀ v H', Same H0 H' → Rp M0 H' v d → Dn.rt v H'
  | .bk ρ' => ∀ σ' H', Rs M0 H0 H' σ' ρ' → Stp M0 σ ρ H σ' ρ' H' → Dn.bk σ' H'
  | .ct ρ' => ∀ σ' H', Rs M0 H0 H' σ' ρ' → Stp M0 σ ρ H σ' ρ' H' → Dn.ct σ' H')
section
variable {X : Cx}
theorem _root_.L2.PE.wk {e : Expr} {t t' : TE} (h : PE X e t) (m : ∀ σ H Q, t' σ H Q → t σ H Q) : PE X e t' := ⟨fun pn s σ H Q I q => h.run pn s σ H Q I (m _ _ _ q)⟩
theorem _root_.L2.PT.wk {e : Expr} {t t' : TT} (h : PT X e t) (m : ∀ σ H Q, t' σ H Q → t σ H Q) : PT X e t' := ⟨fun pn s σ H Q I q => h.run pn s σ H Q I (m _ _ _ q)⟩
theorem _root_.L2.PW.wk {e : Expr} {t t' : TT} (h : PW X e t) (m : ∀ σ H Q, t' σ H Q → t σ H Q) : PW X e t' := ⟨fun wh pn s σ H Q I q => h.run wh pn s σ H Q I (m _ _ _ q)⟩
theorem _root_.L2.PI.wk {tg e : Expr} {t t' : TI} (h : PI X tg e t) (m : ∀ σ H Q, t' σ H Q → t σ H Q) : PI X tg e t' := ⟨fun pn s σ H Q I q => h.run pn s σ H Q I (m _ _ _ q)⟩
theorem _root_.L2.PS.wk {st : Stmt} {t t' : TS} (h : PS X st t) (m : ∀ D σ H, t' D σ H → t D σ H) : PS X st t' := ⟨fun pn s σ H Q I q => h.run pn s σ H Q I (m _ _ _ q)⟩
theorem _root_.L2.PSs.wk {st : List Stmt} {t t' : TS} (h : PSs X st t) (m : ∀ D σ H, t' D σ H → t D σ H) : PSs X st t' := ⟨fun pn s σ H Q I q => h.run pn s σ H Q I (m _ _ _ q)⟩
/-! names and constants -/
def eVar (i : Nat) : EF := fun ρ => match ρ[i]? with | some (some (.dat d)) => some d | _ => none
def eOwn (i : Nat) : EF := fun ρ => match ρ[i]? with | some (some (.own ds)) => some (.list ds) | _ => none
theorem dE_var {e : Expr} {i : Nat} {μ : Bool} (h : PE X e (tVar i)) : PE X e (tD μ (eVar i)) := h.wk fun σ H Q q => by
  obtain ⟨M0, H0, ρ, d, R, e, q⟩ := q
  unfold eVar at e
  split at e
  · rename_i d' z
    cases e
    obtain ⟨v, a, b⟩ := R.dat i _ z
    exact ⟨v, a, q v H (Same.refl _) b.toMu⟩
  · cases e
theorem dE_own {e : Expr} {i : Nat} (h : PE X e (tVar i)) : PE X e (tD false (eOwn i)) := h.wk fun σ H Q q => by
  obtain ⟨M0, H0, ρ, d, R, e, q⟩ := q
  unfold eOwn at e
  split at e
  · rename_i ds z
    cases e
    obtain ⟨p, vs, a, b, c, l, r⟩ := R.own i _ z
    refine ⟨.ref p, a, q _ H (Same.refl _) (.lst b (fun m => ?_) l r.toMu)⟩
    rcases m with m | ⟨m, _⟩
    · exact R.dom p m c
    · cases m
  · cases e
def eC (d : D) : EF := fun _ => some d
def cD : V → Option D
  | .non => some .none
  | .bl b => some (.bool b)
  | .int i => some (.int i)
  | .str x => if x.length ≤ sizeLine then some (.str x) else none
  | _ => none
theorem cD.rp {M : Addr → Prop} {H : Hp} {v : V} {d : D} (h : cD v = some d) : Rp M H v d := by
  cases v with
  | str x =>
    by_cases e : x.length ≤ sizeLine
    · have h : (if x.length ≤ sizeLine then some (PyData.str x) else none) = some d := h
      rw [if_pos e] at h
      cases h
      exact .str x e
    · have h : (if x.length ≤ sizeLine then some (PyData.str x) else none) = some d := h
      rw [if_neg e] at h
      cases h
  | _ => cases h <;> constructor
theorem dE_c {e : Expr} {v : V} {d : D} {μ : Bool} (h : PE X e (tC v)) (hd : cD v = some d := by rfl) : PE X e (tD μ (eC d)) := h.wk fun σ H Q q => by
  obtain ⟨M0, H0, ρ, d', R, e, q⟩ := q
  cases e
  exact q v H (Same.refl _) (cD.rp hd)
/-- a list of one's own may be left out of what is told, where no list is in it -/
def eStr (f : EF) : EF := fun ρ => (f ρ).bind fun d => if nl d = true then some d else none
theorem dE_str {e : Expr} {f : EF} (h : PE X e (tD false f)) : PE X e (tD true (eStr f)) := h.wk fun σ H Q q => by
  obtain ⟨M0, H0, ρ, d, R, e, q⟩ := q
  obtain ⟨d', z, e⟩ := some_bind e
  split at e
  · rename_i hnl
    cases e
    refine ⟨M0, H0, ρ, _, R, z, fun v H' s r => q v H' s (r.nl hnl fun a m => ?_)⟩
    rcases m with m | ⟨_, i, ds, e1, e2⟩
    · exact .inl (.inl m)
    · obtain ⟨p, vs, x, y, _⟩ := (R.mono s).own i ds e1
      rw [e2] at x
      cases x
      exact .inr ⟨_, y⟩
  · cases e
/-! operators -/
def rD (g : D → D → Option D) : R2 := fun x y H Q => ∃ M a b d, Dom M H ∧ Rp M H x a ∧ Rp M H y b ∧ g a b = some d ∧ ∀ v H', Same H H' → Rp M H' v d → Q v H'
def e2 (g : D → D → Option D) (f1 f2 : EF) : EF := fun ρ => (f1 ρ).bind fun a => (f2 ρ).bind fun b => g a b
theorem dOp2 {g : D → D → Option D} {f1 f2 : EF} {μ : Bool} {σ : L2.St} {H : Hp} {Q : VK} (q : tD μ (e2 g f1 f2) σ H Q) : tOp (rD g) (tD μ f1) (tD μ f2) σ H Q := by
  obtain ⟨M0, H0, ρ, d, R, e, q⟩ := q
  obtain ⟨a, ea, e⟩ := some_bind e
  obtain ⟨b, eb, e⟩ := some_bind e
  exact ⟨M0, H0, ρ, a, R, ea, fun x H1 s1 r1 => ⟨M0, H0, ρ, b, R.mono s1, eb, fun y H2 s2 r2 => ⟨_, a, b, d, (R.mono (s1.trans s2)).domu μ, r1.mono (.of s2), r2, e, fun v H3 s3 r3 => q v H3 ((s1.trans s2).trans s3) r3⟩⟩⟩
theorem dE_op {a b : Expr} {op : Operator} {pos : Pos} {g : D → D → Option D} {f1 f2 : EF} {μ : Bool} (o : OpR X (binaryOp op) (rD g)) (ha : PE X a (tD μ f1)) (hb : PE X b (tD μ f2)) : PE X (.BinOp a op b pos) (tD μ (e2 g f1 f2)) := (pe_op o ha hb).wk fun _ _ _ q => dOp2 q
theorem dE_cmp {a b : Expr} {op : CmpOp} {pos : Pos} {g : D → D → Option D} {f1 f2 : EF} {μ : Bool} (o : OpR X (compareOp op) (rD g)) (ha : PE X a (tD μ f1)) (hb : PE X b (tD μ f2)) (hm : behindInMarks op b = false) : PE X (.Compare a [op] [b] pos) (tD μ (e2 g f1 f2)) := (pe_cmpR o ha hb hm).wk fun _ _ _ q => dOp2 q
def bB : D → Option Bool
  | .bool b => some b
  | _ => none
theorem Rp.ofB {M : Addr → Prop} {H : Hp} {v : V} {d : D} {b : Bool} (r : Rp M H v d) (h : bB d = some b) : v = .bl b := by
  cases r <;> cases h
  rfl
def oB (f : EF) : Rho → Option Bool := fun ρ => (f ρ).bind bB
theorem dTest {f : EF} {μ : Bool} {σ : L2.St} {H : Hp} {Q : Bool → Hp → Prop} (q : tT (oB f) σ H Q) : tD μ f σ H (fun x H1 => ∃ c, x = V.bl c ∧ Q c H1) := by
  obtain ⟨M0, H0, ρ, b, R, e, q⟩ := q
  obtain ⟨d, ed, e⟩ := some_bind e
  exact ⟨M0, H0, ρ, d, R, ed, fun v H1 s r => ⟨b, r.ofB e, q _ s⟩⟩
theorem dT_cmp {a b : Expr} {op : CmpOp} {pos : Pos} {g : D → D → Option D} {f1 f2 : EF} {μ : Bool} (o : OpR X (compareOp op) (rD g)) (ha : PE X a (tD μ f1)) (hb : PE X b (tD μ f2)) (hm : behindInMarks op b = false) : PT X (.Compare a [op] [b] pos) (tT (oB (e2 g f1 f2))) := (pt_cmpR o ha hb hm).wk fun σ H Q q => by
  have := dTest (μ := μ) q
  exact dOp2 this
theorem dT_val {e : Expr} {f : EF} {μ : Bool} (h : PE X e (tD μ f)) (ht : ∀ (whole : Sem Value), PySem.isTrue e X.env whole = (do
          let v ← whole
          standAt e.pos
          holding [v] (truthy v)) := by intro _; rfl) : PT X e (tT (oB f)) := (pt_val h ht).wk fun σ H Q q => dTest q
def oNot (f : Rho → Option Bool) : Rho → Option Bool := fun ρ => (f ρ).map (!·)
theorem dT_not {a : Expr} {pos : Pos} {f : Rho → Option Bool} (h : PT X a (tT f)) : PT X (.UnaryOp .Not a pos) (tT (oNot f)) := (pt_not h).wk fun σ H Q q => by
  obtain ⟨M0, H0, ρ, b, R, e, q⟩ := q
  unfold oNot at e
  cases z : f ρ with
  | none => rw [z] at e; cases e
  | some c => rw [z] at e; cases e; exact ⟨M0, H0, ρ, c, R, z, q⟩
def oAnd (f g : Rho → Option Bool) : Rho → Option Bool := fun ρ => (f ρ).bind fun b => if b = true then g ρ else some false
def oOr (f g : Rho → Option Bool) : Rho → Option Bool := fun ρ => (f ρ).bind fun b => if b = true then some true else g ρ
theorem dW_and1 {a : Expr} {pos : Pos} {f : Rho → Option Bool} (h : PT X a (tT f)) : PW X (.BoolOp .And [a] pos) (tT f) := pw_and1 h
theorem dW_or1 {a : Expr} {pos : Pos} {f : Rho → Option Bool} (h : PT X a (tT f)) : PW X (.BoolOp .Or [a] pos) (tT f) := pw_or1 h
theorem dW_and {a b : Expr} {rest : List Expr} {pos : Pos} {f g : Rho → Option Bool} (ha : PT X a (tT f)) (hb : PW X (.BoolOp .And (b :: rest) pos) (tT g)) : PW X (.BoolOp .And (a :: b :: rest) pos) (tT (oAnd f g)) := (pw_and ha hb).wk fun σ H Q q => by
  obtain ⟨M0, H0, ρ, b, R, e, q⟩ := q
  obtain ⟨c, ec, e⟩ := some_bind e
  refine ⟨M0, H0, ρ, c, R, ec, fun H1 s1 => ?_⟩
  cases c with
  | true => exact ⟨M0, H0, ρ, b, R.mono s1, e, fun H2 s2 => q H2 (s1.trans s2)⟩
  | false => cases e; exact q H1 s1
theorem dW_or {a b : Expr} {rest : List Expr} {pos : Pos} {f g : Rho → Option Bool} (ha : PT X a (tT f)) (hb : PW X (.BoolOp .Or (b :: rest) pos) (tT g)) : PW X (.BoolOp .Or (a :: b :: rest) pos) (tT (oOr f g)) := (pw_or ha hb).wk fun σ H Q q => by
  obtain ⟨M0, H0, ρ, b, R, e, q⟩ := q
  obtain ⟨c, ec, e⟩ := some_bind e
  refine ⟨M0, H0, ρ, c, R, ec, fun H1 s1 => ?_⟩
  cases c with
  | true => cases e; exact q H1 s1
  | false => exact ⟨M0, H0, ρ, b, R.mono s1, e, fun H2 s2 => q H2 (s1.trans s2)⟩
/-! and, or, not, if as values -/
def eAnd (f g : EF) : EF := fun ρ => ((f ρ).bind bB).bind fun b => if b = true then g ρ else some (.bool false)
def eOr (f g : EF) : EF := fun ρ => ((f ρ).bind bB).bind fun b => if b = true then some (.bool true) else g ρ
theorem dE_one {a : Expr} {op : BoolOp} {pos : Pos} {f : EF} {μ : Bool} (h : PE X a (tD μ f)) : PE X (.BoolOp op [a] pos) (tD μ f) := pe_one h
theorem dE_and {a b : Expr} {rest : List Expr} {pos : Pos} {f g : EF} {μ : Bool} (ha : PE X a (tD μ f)) (hb : PE X (.BoolOp .And (b :: rest) pos) (tD μ g)) : PE X (.BoolOp .And (a :: b :: rest) pos) (tD μ (eAnd f g)) := (pe_and ha hb).wk fun σ H Q q => by
  obtain ⟨M0, H0, ρ, d, R, e, q⟩ := q
  obtain ⟨c, ec, e⟩ := some_bind e
  obtain ⟨d1, e1, ec⟩ := some_bind ec
  refine ⟨M0, H0, ρ, d1, R, e1, fun v H1 s1 r1 => ⟨c, r1.ofB ec, ?_⟩⟩
  cases c with
  | true => exact ⟨M0, H0, ρ, d, R.mono s1, e, fun v H2 s2 => q v H2 (s1.trans s2)⟩
  | false => cases e; exact q _ H1 s1 (.bl _)
theorem dE_or {a b : Expr} {rest : List Expr} {pos : Pos} {f g : EF} {μ : Bool} (ha : PE X a (tD μ f)) (hb : PE X (.BoolOp .Or (b :: rest) pos) (tD μ g)) : PE X (.BoolOp .Or (a :: b :: rest) pos) (tD μ (eOr f g)) := (pe_or ha hb).wk fun σ H Q q => by
  obtain ⟨M0, H0, ρ, d, R, e, q⟩ := q
  obtain ⟨c, ec, e⟩ := some_bind e
  obtain ⟨d1, e1, ec⟩ := some_bind ec
  refine ⟨M0, H0, ρ, d1, R, e1, fun v H1 s1 r1 => ⟨c, r1.ofB ec, ?_⟩⟩
  cases c with
  | true => cases e; exact q _ H1 s1 (.bl _)
  | false => exact ⟨M0, H0, ρ, d, R.mono s1, e, fun v H2 s2 => q v H2 (s1.trans s2)⟩
def eNot (f : EF) : EF := fun ρ => ((f ρ).bind bB).map fun b => .bool (!b)
theorem dE_not {a : Expr} {pos : Pos} {f : EF} {μ : Bool} (h : PE X a (tD μ f)) : PE X (.UnaryOp .Not a pos) (tD μ (eNot f)) := (pe_not h).wk fun σ H Q q => by
  obtain ⟨M0, H0, ρ, d, R, e, q⟩ := q
  unfold eNot at e
  cases z : (f ρ).bind bB with
  | none => rw [z] at e; cases e
  | some c =>
    rw [z] at e
    cases e
    obtain ⟨d1, e1, ec⟩ := some_bind z
    exact ⟨M0, H0, ρ, d1, R, e1, fun v H1 s1 r1 => ⟨c, r1.ofB ec, q _ _ s1 (.bl _)⟩⟩
/-- truth of data -/
def trD : D → Option Bool
  | .none => some false
  | .bool b => some b
  | .int i => some (i != 0)
  | .tuple ds => some (!ds.isEmpty)
  | .list ds => some (!ds.isEmpty)
  | _ => none
theorem Rp.tru {K : PySem.W.Frag} {M : Addr → Prop} {H : Hp} {v : V} {d : D} {b : Bool} (r : Rp M H v d) (h : trD d = some b) : TruV K v H b := by
  cases r with
  | non => cases h; rfl
  | bl b => cases h; rfl
  | int i => cases h; rfl
  | str x hx => cases h
  | tup t n l a =>
    cases h
    refine .inr (.inl ⟨_, t.sq, ?_⟩)
    cases a <;> rfl
  | lst t n l a =>
    cases h
    refine .inl ⟨_, SqL.of t, ?_⟩
    cases a <;> rfl
  | dic t n => cases h
def eOrT (f g : EF) : EF := fun ρ => (f ρ).bind fun d => (trD d).bind fun b => if b = true then some d else g ρ
theorem dE_orT {a b : Expr} {rest : List Expr} {pos : Pos} {f g : EF} {μ : Bool} (ha : PE X a (tD μ f)) (hb : PE X (.BoolOp .Or (b :: rest) pos) (tD μ g)) : PE X (.BoolOp .Or (a :: b :: rest) pos) (tD μ (eOrT f g)) := (pe_orT ha hb).wk fun σ H Q q => by
  obtain ⟨M0, H0, ρ, d, R, e, q⟩ := q
  obtain ⟨d1, e1, e⟩ := some_bind e
  obtain ⟨c, ec, e⟩ := some_bind e
  refine ⟨M0, H0, ρ, d1, R, e1, fun v H1 s1 r1 => ⟨c, r1.tru ec, ?_⟩⟩
  cases c with
  | true => cases e; exact q _ H1 s1 r1
  | false => exact ⟨M0, H0, ρ, d, R.mono s1, e, fun v H2 s2 => q v H2 (s1.trans s2)⟩
def oTr (f : EF) : Rho → Option Bool := fun ρ => (f ρ).bind trD
theorem dT_truth {e : Expr} {f : EF} {μ : Bool} (h : PE X e (tD μ f)) (ht : ∀ (whole : Sem Value), PySem.isTrue e X.env whole = (do
          let v ← whole
          standAt e.pos
          holding [v] (truthy v)) := by intro _; rfl) : PT X e (tT (oTr f)) := (pt_truth h ht).wk fun σ H Q q => by
  obtain ⟨M0, H0, ρ, b, R, e, q⟩ := q
  obtain ⟨d1, e1, e⟩ := some_bind e
  exact ⟨M0, H0, ρ, d1, R, e1, fun v H1 s1 r1 => ⟨b, r1.tru e, q _ s1⟩⟩
def eIf (c : Rho → Option Bool) (f g : EF) : EF := fun ρ => (c ρ).bind fun b => if b = true then f ρ else g ρ
theorem dE_if {a b c : Expr} {pos : Pos} {t : Rho → Option Bool} {f g : EF} {μ : Bool} (hc : PT X c (tT t)) (ha : PE X a (tD μ f)) (hb : PE X b (tD μ g)) : PE X (c.IfExp a b pos) (tD μ (eIf t f g)) := (pe_ifExp hc ha hb).wk fun σ H Q q => by
  obtain ⟨M0, H0, ρ, d, R, e, q⟩ := q
  obtain ⟨c, ec, e⟩ := some_bind e
  refine ⟨M0, H0, ρ, c, R, ec, fun H1 s1 => ?_⟩
  cases c with
  | true => exact ⟨M0, H0, ρ, d, R.mono s1, e, fun v H2 s2 => q v H2 (s1.trans s2)⟩
  | false => exact ⟨M0, H0, ρ, d, R.mono s1, e, fun v H2 s2 => q v H2 (s1.trans s2)⟩
def eChain (g g' : D → D → Option D) (f1 f2 f3 : EF) : EF := fun ρ => (f1 ρ).bind fun a => (f2 ρ).bind fun b => ((g a b).bind bB).bind fun k => if k = true then (f3 ρ).bind fun c => g' b c else some (.bool false)
theorem dChain {g g' : D → D → Option D} {f1 f2 f3 : EF} {μ : Bool} {σ : L2.St} {H : Hp} {Q : VK} (q : tD μ (eChain g g' f1 f2 f3) σ H Q) : tChain (rD g) (rD g') (tD μ f1) (tD μ f2) (tD μ f3) σ H Q := by
  obtain ⟨M0, H0, ρ, d, R, e, q⟩ := q
  obtain ⟨a, ea, e⟩ := some_bind e
  obtain ⟨b, eb, e⟩ := some_bind e
  obtain ⟨k, ek, e⟩ := some_bind e
  obtain ⟨z, ez, ek⟩ := some_bind ek
  refine ⟨M0, H0, ρ, a, R, ea, fun x H1 s1 r1 => ⟨M0, H0, ρ, b, R.mono s1, eb, fun y H2 s2 r2 => ⟨_, a, b, z, (R.mono (s1.trans s2)).domu μ, r1.mono (.of s2), r2, ez, fun v H3 s3 r3 => ⟨k, r3.ofB ek, ?_⟩⟩⟩⟩
  have s13 := (s1.trans s2).trans s3
  cases k with
  | true =>
    obtain ⟨c, ec, e⟩ := some_bind e
    exact ⟨M0, H0, ρ, c, R.mono s13, ec, fun w H4 s4 r4 => ⟨_, b, c, d, (R.mono (s13.trans s4)).domu μ, r2.mono (.of (s3.trans s4)), r4, e, fun v H5 s5 r5 => q v H5 ((s13.trans s4).trans s5) r5⟩⟩
  | false => cases e; exact q _ _ s13 (.bl _)
theorem dE_chain {a b c : Expr} {op op' : CmpOp} {pos : Pos} {g g' : D → D → Option D} {f1 f2 f3 : EF} {μ : Bool} (o : OpR X (compareOp op) (rD g)) (o' : OpR X (compareOp op') (rD g')) (ha : PE X a (tD μ f1)) (hb : PE X b (tD μ f2)) (hc : PE X c (tD μ f3)) (hm : lastMarks [op, op'] [b, c] = false := by rfl) : PE X (a.Compare [op, op'] [b, c] pos) (tD μ (eChain g g' f1 f2 f3)) := (pe_chain o o' ha hb hc hm).wk fun _ _ _ q => dChain q
theorem dT_chain {a b c : Expr} {op op' : CmpOp} {pos : Pos} {g g' : D → D → Option D} {f1 f2 f3 : EF} {μ : Bool} (o : OpR X (compareOp op) (rD g)) (o' : OpR X (compareOp op') (rD g')) (ha : PE X a (tD μ f1)) (hb : PE X b (tD μ f2)) (hc : PE X c (tD μ f3)) (hm : lastMarks [op, op'] [b, c] = false := by rfl) : PT X (a.Compare [op, op'] [b, c] pos) (tT (oB (eChain g g' f1 f2 f3))) := (pt_chain o o' ha hb hc hm).wk fun _ _ _ q => by
  have := dTest (μ := μ) q
  exact dChain this
end
end Dl
namespace Dl
open PySem PySem.Spec PyProof.Rows L2 Rt
section
variable {X : Cx}
/-- a tuple that was made -/
theorem Inv.tupF {pn : List (Addr × Obj)} {σ : L2.St} {H : Hp} {s : Shared} {us : List Value} {xs : List V} (I : L2.Inv X pn σ H s) (r : Vals xs us) (hz : xs.length ≤ sizeLine) :
    L2.Inv X pn σ (upd H s.heap.objs.size (.frz { cls := .type "tuple", data := .seq us.toArray } (.tup xs))) { s with heap := s.heap.push { cls := .type "tuple", data := .seq us.toArray } } :=
  I.laid (t' := s.toks) (fun b o e => Heap.get?_push_of_some _ e) (Nat.le_refl _) (show ObjOk X.prog X.w _ _ _ (.frz { cls := .type "tuple", data := .seq us.toArray } (.tup xs)) from ⟨Heap.get?_push_size _ rfl, hz, us, r, IsTup.new _ _⟩)
theorem updF {H : Hp} {p : Addr} {xs : List V} {us : List Value} : TupF (upd H p (.frz { cls := .type "tuple", data := .seq us.toArray } (.tup xs))) p xs := ⟨_, upd_same, rfl⟩
/-- (a, b) -/
def tTupF (t : TA) : TE := fun σ H Q => t σ H fun xs H1 => xs.length ≤ sizeLine ∧ ∀ p H', H1 p = none → Same H1 H' → TupF H' p xs → Q (.ref p) H'
theorem pe_tupF {es : List Expr} {t : TA} {x1 : Nat} {pos : Pos} (h : PA X es t) : PE X (.Tuple es x1 pos) (tTupF t) :=
  ⟨fun pn s σ H Q I hq => wpAny_Tuple_spliced (thn (h.run pos pn s σ H _ I hq) fun us s1 ⟨xs, H1, I1, r, z, q⟩ => ⟨by rw [← r.length]; exact z, .ref s1.heap.objs.size, _, Inv.tupF I1 r z, rfl, q _ _ (I1.hok.fresh (Nat.le_refl _)) (smN (I1.hok.fresh (Nat.le_refl _))) updF⟩)⟩
/-- t + u -/
def rCatF : R2 := fun x y H Q => ∃ a b xs ys, x = .ref a ∧ y = .ref b ∧ TupF H a xs ∧ TupF H b ys ∧ xs.length + ys.length ≤ sizeLine ∧ ∀ p H', (H p = none ∨ p = a ∨ p = b) → Same H H' → TupF H' p (xs ++ ys) → Q (.ref p) H'
theorem op_catF : OpR X (binaryOp .Add) rCatF := by
  intro pins s σ H x y v u Q I rx ry h
  obtain ⟨a, b, xs, ys, rfl, rfl, ha, hb, hz, q⟩ := h
  by_cases e1 : xs = []
  · subst e1
    exact op_catA pins s σ H _ _ v u Q I rx ry ⟨a, b, [], ys, rfl, rfl, ha.sq, hb.sq, hz, fun e => q b H (.inr (.inr rfl)) (Same.refl H) hb, fun e _ => (e rfl).elim, fun e _ => (e rfl).elim⟩
  by_cases e2 : ys = []
  · subst e2
    refine op_catA pins s σ H _ _ v u Q I rx ry ⟨a, b, xs, [], rfl, rfl, ha.sq, hb.sq, hz, fun e => (e1 e).elim, fun _ _ => q a H (.inr (.inl rfl)) (Same.refl H) (by rw [List.append_nil]; exact ha), fun _ e => (e rfl).elim⟩
  cases rx
  cases ry
  obtain ⟨its, r1, p1, _⟩ := I.tuple (ha.sq (K := X.K))
  obtain ⟨its2, r2, p2, _⟩ := I.tuple (hb.sq (K := X.K))
  refine HT.cat_tup p1 p2 (fun z => e1 (r1.nil_iff.mp z)) (fun z => (e2 (r2.nil_iff.mp z)).elim) (fun z => ?_) (by rw [← r1.length, ← r2.length]; exact hz)
  have fr := I.hok.fresh (Nat.le_refl s.heap.objs.size)
  exact ⟨.ref s.heap.objs.size, _, Inv.tupF I (r1.append r2) (by rw [List.length_append]; exact hz), rfl, q _ _ (.inl fr) (smN fr) updF⟩
/-- t[lo:hi] -/
def rSlF : V → Option Int → Option Int → Hp → VK → Prop := fun x lo hi H Q => ∃ a xs, x = .ref a ∧ TupF H a xs ∧ ∀ p H', (H p = none ∨ p = a) → Same H H' → TupF H' p (cutV xs lo hi) → Q (.ref p) H'
theorem sl_tupF : SlR X rSlF := by
  intro pins s σ H x v vl vu lo hi sl Q I rx hs pl pu h
  obtain ⟨a, xs, rfl, ha, q⟩ := h
  by_cases hw : HT.sIx xs.length 0 lo = 0 ∧ HT.sIx xs.length xs.length hi = xs.length
  · refine sl_tupA pins s σ H _ v vl vu lo hi sl Q I rx hs pl pu ⟨a, xs, rfl, ha.sq, fun hw => q a H (.inr rfl) (Same.refl H) ?_, fun h => (h hw).elim⟩
    unfold cutV
    rw [hw.1, hw.2, List.drop_zero, Nat.sub_zero, List.take_length]
    exact ha
  cases rx
  obtain ⟨its, r, ht, hz⟩ := I.tuple (ha.sq (K := X.K))
  have hlen : its.toArray.size = xs.length := by rw [List.size_toArray]; exact r.length.symm
  have fr := I.hok.fresh (Nat.le_refl s.heap.objs.size)
  refine ⟨"tuple", "tuple.__getitem__", PyProof.Rows.slot_tuple_getitem.lookup, ht.typeIs, HT.getItem_tuple_cut ht hs pl pu (by rw [hlen]; exact hw) ?_ (by rw [hlen]; exact hz)⟩
  rw [hlen]
  exact ⟨.ref s.heap.objs.size, _, Inv.tupF I ((r.drop _).take _) (Nat.le_trans (cutV_length xs lo hi) hz), rfl, q _ _ (.inl fr) (smN fr) updF⟩
end
end Dl
namespace Dl
open PySem PySem.Spec PyProof.Rows L2 Rt
theorem iteS {α : Type} {c : Prop} [Decidable c] {a b : α} (h : (if c then some a else none) = some b) : c ∧ a = b := by
  by_cases e : c
  · rw [if_pos e] at h; cases h; exact ⟨e, rfl⟩
  · rw [if_neg e] at h; cases h
/-! what operators tell -/
def addD : D → D → Option D
  | .int i, .int j => some (.int (i + j))
  | .tuple a, .tuple b => if a.length + b.length ≤ sizeLine then some (.tuple (a ++ b)) else none
  | .list a, .list b => if a.length + b.length ≤ sizeLine then some (.list (a ++ b)) else none
  | .str a, .str b => if a.length + b.length ≤ sizeLine then some (.str (a ++ b)) else none
  | _, _ => none
def subD : D → D → Option D
  | .int i, .int j => some (.int (i - j))
  | _, _ => none
def mulD : D → D → Option D
  | .int i, .int j => if (-(2 ^ 64) < i ∧ i < 2 ^ 64) ∨ (-(2 ^ 64) < j ∧ j < 2 ^ 64) then some (.int (i * j)) else none
  | _, _ => none
def modD : D → D → Option D
  | .int i, .int j => if 0 < j then some (.int (i % j)) else none
  | _, _ => none
def fdivD : D → D → Option D
  | .int i, .int j => if 0 < j ∧ j < 2 ^ 60 then some (.int (i / j)) else none
  | _, _ => none
def powD : D → D → Option D
  | .int i, .int j => if 0 ≤ j ∧ j ≤ 1000000 ∧ i.natAbs < 2 ^ 64 then some (.int (i ^ j.toNat)) else none
  | _, _ => none
def ltD : D → D → Option D
  | .int i, .int j => some (.bool (decide (i < j)))
  | .str i, .str j => some (.bool (decide (i.cps.toList < j.cps.toList)))
  | _, _ => none
def leD : D → D → Option D
  | .int i, .int j => some (.bool (decide (i ≤ j)))
  | .str i, .str j => some (.bool (!decide (j.cps.toList < i.cps.toList)))
  | _, _ => none
def gtD : D → D → Option D
  | .int i, .int j => some (.bool (decide (i > j)))
  | _, _ => none
def geD : D → D → Option D
  | .int i, .int j => some (.bool (decide (i ≥ j)))
  | .str i, .str j => some (.bool (!decide (i.cps.toList < j.cps.toList)))
  | _, _ => none
/-- it can be compared and shown: no dict in it, not too deep -/
def okD (d : D) : Bool := !d.hasDict && SeqAt.shaped d
def eqD (a b : D) : Option D := if (okD a && okD b) = true then some (.bool (PyData.eqv a b)) else none
def neD (a b : D) : Option D := if (okD a && okD b) = true then some (.bool (!PyData.eqv a b)) else none
def isND : D → D → Option D
  | .none, .none => some (.bool true)
  | _, .none => some (.bool false)
  | _, _ => none
def noND : D → D → Option D
  | .none, .none => some (.bool false)
  | _, .none => some (.bool true)
  | _, _ => none
def inD : D → D → Option D
  | a, .tuple ds => if (okD a && okD (.tuple ds)) = true then some (.bool (ds.any fun z => PyData.eqv z a)) else none
  | a, .list ds => if (okD a && okD (.list ds)) = true then some (.bool (ds.any fun z => PyData.eqv z a)) else none
  | .str i, .str j => match i.cps.toList with
    | [c] => some (.bool (decide (c ∈ j.cps.toList)))
    | _ => none
  | _, _ => none
def ninD : D → D → Option D
  | a, .tuple ds => if (okD a && okD (.tuple ds)) = true then some (.bool (!ds.any fun z => PyData.eqv z a)) else none
  | a, .list ds => if (okD a && okD (.list ds)) = true then some (.bool (!ds.any fun z => PyData.eqv z a)) else none
  | .str i, .str j => match i.cps.toList with
    | [c] => some (.bool (!decide (c ∈ j.cps.toList)))
    | _ => none
  | _, _ => none
theorem one_sign {i : Str} {c : Nat} (h : i.cps.toList = [c]) : i = ⟨#[c]⟩ := by
  cases i with
  | mk a =>
    have h : a.toList = [c] := h
    congr
    rw [← Array.toArray_toList (xs := a), h]
theorem okD.parts {d : D} (h : okD d = true) : d.hasDict = false ∧ SeqAt.shaped d = true := by
  have := Bool.and_eq_true_iff.mp h
  exact ⟨by simpa using this.1, this.2⟩
section
variable {X : Cx}
theorem o_add : OpR X (binaryOp .Add) (rD addD) := by
  intro pn s σ H x y v u Q I rx ry h
  obtain ⟨M, a, b, d, dm, ra, rb, e, q⟩ := h
  cases ra <;> cases rb <;> try (cases e; done)
  · cases e
    exact op_add pn s σ H _ _ v u Q I rx ry ⟨_, _, rfl, rfl, q _ _ (Same.refl _) (.int _)⟩
  · obtain ⟨l, rfl⟩ := iteS e
    exact op_add_str pn s σ H _ _ v u Q I rx ry ⟨_, _, rfl, rfl, l, q _ _ (Same.refl _) (.str _ (by show (Array.size (_ ++ _)) ≤ _; rw [Array.size_append]; exact l))⟩
  · rename_i t1 n1 l1 r1 _ _ _ t2 n2 l2 r2
    obtain ⟨l, rfl⟩ := iteS e
    refine op_catF pn s σ H _ _ v u Q I rx ry ⟨_, _, _, _, rfl, rfl, t1, t2, by rw [r1.len, r2.len]; exact l, fun p H' hp sm t => q _ H' sm (.tup t (fun m => ?_) (by rw [List.length_append, r1.len, r2.len]; exact l) ((r1.mono (.of sm)).app (r2.mono (.of sm))))⟩
    rcases hp with hp | hp | hp
    · exact dm p m hp
    · rw [hp] at m; exact n1 m
    · rw [hp] at m; exact n2 m
  · rename_i t1 n1 l1 r1 _ _ _ t2 n2 l2 r2
    obtain ⟨l, rfl⟩ := iteS e
    exact op_cat pn s σ H _ _ v u Q I rx ry ⟨_, _, _, _, rfl, rfl, t1, t2, by rw [r1.len, r2.len]; exact l, fun p hp => q _ _ (smN hp) (.lst upd_same (fun m => dm p m hp) (by rw [List.length_append, r1.len, r2.len]; exact l) ((r1.mono (.of (smN hp))).app (r2.mono (.of (smN hp)))))⟩
theorem o_sub : OpR X (binaryOp .Sub) (rD subD) := by
  intro pn s σ H x y v u Q I rx ry h
  obtain ⟨M, a, b, d, dm, ra, rb, e, q⟩ := h
  cases ra <;> cases rb <;> try (cases e; done)
  cases e
  exact op_sub pn s σ H _ _ v u Q I rx ry ⟨_, _, rfl, rfl, q _ _ (Same.refl _) (.int _)⟩
theorem o_mul : OpR X (binaryOp .Mult) (rD mulD) := by
  intro pn s σ H x y v u Q I rx ry h
  obtain ⟨M, a, b, d, dm, ra, rb, e, q⟩ := h
  cases ra <;> cases rb <;> try (cases e; done)
  obtain ⟨l, rfl⟩ := iteS e
  exact op_mul pn s σ H _ _ v u Q I rx ry ⟨_, _, rfl, rfl, l, q _ _ (Same.refl _) (.int _)⟩
theorem o_mod : OpR X (binaryOp .Mod) (rD modD) := by
  intro pn s σ H x y v u Q I rx ry h
  obtain ⟨M, a, b, d, dm, ra, rb, e, q⟩ := h
  cases ra <;> cases rb <;> try (cases e; done)
  obtain ⟨l, rfl⟩ := iteS e
  exact op_mod pn s σ H _ _ v u Q I rx ry ⟨_, _, rfl, rfl, l, q _ _ (Same.refl _) (.int _)⟩
theorem o_fdiv : OpR X (binaryOp .FloorDiv) (rD fdivD) := by
  intro pn s σ H x y v u Q I rx ry h
  obtain ⟨M, a, b, d, dm, ra, rb, e, q⟩ := h
  cases ra <;> cases rb <;> try (cases e; done)
  obtain ⟨l, rfl⟩ := iteS e
  exact op_fdivW pn s σ H _ _ v u Q I rx ry ⟨_, _, rfl, rfl, wide_div (b := 60) l.1 (by omega) (by decide) (by decide), q _ _ (Same.refl _) (.int _)⟩
theorem o_pow : OpR X (binaryOp .Pow) (rD powD) := by
  intro pn s σ H x y v u Q I rx ry h
  obtain ⟨M, a, b, d, dm, ra, rb, e, q⟩ := h
  cases ra <;> cases rb <;> try (cases e; done)
  obtain ⟨l, rfl⟩ := iteS e
  exact op_pow pn s σ H _ _ v u Q I rx ry ⟨_, _, rfl, rfl, l, q _ _ (Same.refl _) (.int _)⟩
theorem o_lt : OpR X (compareOp .Lt) (rD ltD) := by
  intro pn s σ H x y v u Q I rx ry h
  obtain ⟨M, a, b, d, dm, ra, rb, e, q⟩ := h
  cases ra <;> cases rb <;> try (cases e; done)
  · cases e
    exact op_lt pn s σ H _ _ v u Q I rx ry ⟨_, _, rfl, rfl, q _ _ (Same.refl _) (.bl _)⟩
  · cases e
    exact op_lt_str pn s σ H _ _ v u Q I rx ry ⟨_, _, rfl, rfl, q _ _ (Same.refl _) (.bl _)⟩
theorem o_le : OpR X (compareOp .LtE) (rD leD) := by
  intro pn s σ H x y v u Q I rx ry h
  obtain ⟨M, a, b, d, dm, ra, rb, e, q⟩ := h
  cases ra <;> cases rb <;> try (cases e; done)
  · cases e
    exact op_le pn s σ H _ _ v u Q I rx ry ⟨_, _, rfl, rfl, q _ _ (Same.refl _) (.bl _)⟩
  · cases e
    exact op_le_str pn s σ H _ _ v u Q I rx ry ⟨_, _, rfl, rfl, q _ _ (Same.refl _) (.bl _)⟩
theorem o_gt : OpR X (compareOp .Gt) (rD gtD) := by
  intro pn s σ H x y v u Q I rx ry h
  obtain ⟨M, a, b, d, dm, ra, rb, e, q⟩ := h
  cases ra <;> cases rb <;> try (cases e; done)
  cases e
  exact op_gt pn s σ H _ _ v u Q I rx ry ⟨_, _, rfl, rfl, q _ _ (Same.refl _) (.bl _)⟩
theorem o_ge : OpR X (compareOp .GtE) (rD geD) := by
  intro pn s σ H x y v u Q I rx ry h
  obtain ⟨M, a, b, d, dm, ra, rb, e, q⟩ := h
  cases ra <;> cases rb <;> try (cases e; done)
  · cases e
    exact op_ge pn s σ H _ _ v u Q I rx ry ⟨_, _, rfl, rfl, q _ _ (Same.refl _) (.bl _)⟩
  · cases e
    exact op_ge_str pn s σ H _ _ v u Q I rx ry ⟨_, _, rfl, rfl, q _ _ (Same.refl _) (.bl _)⟩
theorem o_eq (hu : X.A.units + 64 < cLine) : OpR X (compareOp .Eq) (rD eqD) := by
  intro pn s σ H x y v u Q I rx ry h
  obtain ⟨M, a, b, d, dm, ra, rb, e, q⟩ := h
  obtain ⟨l, rfl⟩ := iteS e
  have l := Bool.and_eq_true_iff.mp l
  exact op_eqD hu pn s σ H _ _ v u Q I rx ry ⟨a, b, ra.dp (okD.parts l.1).1, rb.dp (okD.parts l.2).1, (okD.parts l.1).2, (okD.parts l.2).2, q _ _ (Same.refl _) (.bl _)⟩
theorem o_ne (hu : X.A.units + 64 < cLine) : OpR X (compareOp .NotEq) (rD neD) := by
  intro pn s σ H x y v u Q I rx ry h
  obtain ⟨M, a, b, d, dm, ra, rb, e, q⟩ := h
  obtain ⟨l, rfl⟩ := iteS e
  have l := Bool.and_eq_true_iff.mp l
  exact op_neD hu pn s σ H _ _ v u Q I rx ry ⟨a, b, ra.dp (okD.parts l.1).1, rb.dp (okD.parts l.2).1, (okD.parts l.1).2, (okD.parts l.2).2, q _ _ (Same.refl _) (.bl _)⟩
theorem o_is : OpR X (compareOp .Is) (rD isND) := by
  intro pn s σ H x y v u Q I rx ry h
  obtain ⟨M, a, b, d, dm, ra, rb, e, q⟩ := h
  cases rb <;> (try (cases ra <;> cases e; done))
  refine op_isN pn s σ H _ _ v u Q I rx ry ⟨rfl, ?_⟩
  cases ra <;> cases e <;> exact q _ _ (Same.refl _) (.bl _)
theorem o_isnot : OpR X (compareOp .IsNot) (rD noND) := by
  intro pn s σ H x y v u Q I rx ry h
  obtain ⟨M, a, b, d, dm, ra, rb, e, q⟩ := h
  cases rb <;> (try (cases ra <;> cases e; done))
  refine op_notN pn s σ H _ _ v u Q I rx ry ⟨rfl, ?_⟩
  cases ra <;> cases e <;> exact q _ _ (Same.refl _) (.bl _)
theorem o_in (hu : X.A.units + 65 < cLine) : OpR X (compareOp .In) (rD inD) := by
  intro pn s σ H x y v u Q I rx ry h
  obtain ⟨M, a, b, d, dm, ra, rb, e, q⟩ := h
  cases rb <;> (try (cases ra <;> cases e; done))
  · cases ra <;> try (cases e; done)
    rename_i i hi
    simp only [inD] at e
    split at e
    · rename_i c hc
      cases e
      exact op_in_sign pn s σ H _ _ v u Q I rx ry ⟨c, _, by rw [one_sign hc], rfl, q _ _ (Same.refl _) (.bl _)⟩
    · cases e
  · rename_i xs ds t n l r
    obtain ⟨l2, rfl⟩ := iteS (show (if (okD a && okD (.tuple ds)) = true then some (PyData.bool (ds.any fun z => PyData.eqv z a)) else none) = some d by cases a <;> exact e)
    have l2 := Bool.and_eq_true_iff.mp l2
    have rb : Rp M H (.ref _) (.tuple ds) := .tup t n l r
    obtain ⟨as, r1⟩ := Dp.reads I _ _ v (ra.dp (okD.parts l2.1).1) rx
    obtain ⟨bs, r2⟩ := Dp.reads I _ _ u (rb.dp (okD.parts l2.2).1) ry
    exact SeqAt.in_tuple_reads r2 r1 (SeqAt.canLay_of_shaped (okD.parts l2.2).2) (SeqAt.canLay_of_shaped (okD.parts l2.1).2) (room_in_shaped (okD.parts l2.1).2 hu) ⟨.bl _, H, I, rfl, q _ _ (Same.refl _) (.bl _)⟩
  · rename_i xs ds t n l r
    obtain ⟨l2, rfl⟩ := iteS (show (if (okD a && okD (.list ds)) = true then some (PyData.bool (ds.any fun z => PyData.eqv z a)) else none) = some d by cases a <;> exact e)
    have l2 := Bool.and_eq_true_iff.mp l2
    have rb : Rp M H (.ref _) (.list ds) := .lst t n l r
    exact op_inD hu pn s σ H _ _ v u Q I rx ry ⟨a, ds, ra.dp (okD.parts l2.1).1, rb.dp (okD.parts l2.2).1, (okD.parts l2.1).2, (okD.parts l2.2).2, q _ _ (Same.refl _) (.bl _)⟩
theorem o_nin (hu : X.A.units + 65 < cLine) : OpR X (compareOp .NotIn) (rD ninD) := by
  intro pn s σ H x y v u Q I rx ry h
  obtain ⟨M, a, b, d, dm, ra, rb, e, q⟩ := h
  cases rb <;> (try (cases ra <;> cases e; done))
  · cases ra <;> try (cases e; done)
    rename_i i hi
    simp only [ninD] at e
    split at e
    · rename_i c hc
      cases e
      exact op_notIn_sign pn s σ H _ _ v u Q I rx ry ⟨c, _, by rw [one_sign hc], rfl, q _ _ (Same.refl _) (.bl _)⟩
    · cases e
  · rename_i xs ds t n l r
    obtain ⟨l2, rfl⟩ := iteS (show (if (okD a && okD (.tuple ds)) = true then some (PyData.bool (!ds.any fun z => PyData.eqv z a)) else none) = some d by cases a <;> exact e)
    have l2 := Bool.and_eq_true_iff.mp l2
    have rb : Rp M H (.ref _) (.tuple ds) := .tup t n l r
    obtain ⟨as, r1⟩ := Dp.reads I _ _ v (ra.dp (okD.parts l2.1).1) rx
    obtain ⟨bs, r2⟩ := Dp.reads I _ _ u (rb.dp (okD.parts l2.2).1) ry
    exact SeqAt.notIn_tuple_reads r2 r1 (SeqAt.canLay_of_shaped (okD.parts l2.2).2) (SeqAt.canLay_of_shaped (okD.parts l2.1).2) (room_in_shaped (okD.parts l2.1).2 hu) ⟨.bl _, H, I, rfl, q _ _ (Same.refl _) (.bl _)⟩
  · rename_i xs ds t n l r
    obtain ⟨l2, rfl⟩ := iteS (show (if (okD a && okD (.list ds)) = true then some (PyData.bool (!ds.any fun z => PyData.eqv z a)) else none) = some d by cases a <;> exact e)
    have l2 := Bool.and_eq_true_iff.mp l2
    have rb : Rp M H (.ref _) (.list ds) := .lst t n l r
    exact op_notInD hu pn s σ H _ _ v u Q I rx ry ⟨a, ds, ra.dp (okD.parts l2.1).1, rb.dp (okD.parts l2.2).1, (okD.parts l2.1).2, (okD.parts l2.2).2, q _ _ (Same.refl _) (.bl _)⟩
def negD : D → Option D
  | .int i => some (.int (-i))
  | _ => none
def e1 (g : D → Option D) (f : EF) : EF := fun ρ => (f ρ).bind g
theorem dE_neg {a : Expr} {pos : Pos} {f : EF} {μ : Bool} (h : PE X a (tD μ f)) : PE X (.UnaryOp .USub a pos) (tD μ (e1 negD f)) := (pe_un un_neg h).wk fun σ H Q q => by
  obtain ⟨M0, H0, ρ, d, R, e, q⟩ := q
  obtain ⟨d1, e1, e⟩ := some_bind e
  refine ⟨M0, H0, ρ, d1, R, e1, fun v H1 s1 r1 => ?_⟩
  cases r1 <;> cases e
  exact ⟨_, rfl, q _ _ s1 (.int _)⟩
/-! arguments, displays, subscripts, slices -/
def aNil : Rho → Option (List D) := fun _ => some []
def aCons (f : EF) (g : Rho → Option (List D)) : Rho → Option (List D) := fun ρ => (f ρ).bind fun d => (g ρ).map fun ds => d :: ds
theorem dA_nil {μ : Bool} : PA X [] (tA μ aNil) := PA.weak pa_nil fun σ H Q q => by
  obtain ⟨M0, H0, ρ, ds, R, e, q⟩ := q
  cases e
  exact ⟨Q, q [] H (Same.refl _) .nil, fun _ _ z => z⟩
theorem dA_cons {e : Expr} {es : List Expr} {f : EF} {g : Rho → Option (List D)} {μ : Bool} (h : PE X e (tD μ f)) (hs : PA X es (tA μ g)) (he : starEach (e :: es) X.env = (false, eval e X.env) :: starEach es X.env := by rfl) : PA X (e :: es) (tA μ (aCons f g)) := PA.weak (pa_cons h hs he) fun σ H Q q => by
  obtain ⟨M0, H0, ρ, ds, R, e, q⟩ := q
  obtain ⟨d, ed, e⟩ := some_bind e
  cases z : g ρ with
  | none => rw [z] at e; cases e
  | some r =>
    rw [z] at e
    cases e
    exact ⟨Q, ⟨M0, H0, ρ, d, R, ed, fun v H1 s1 r1 => ⟨M0, H0, ρ, r, R.mono s1, z, fun vs H2 s2 r2 => q _ H2 (s1.trans s2) (.cons (r1.mono (.of s2)) r2)⟩⟩, fun _ _ z => z⟩
def eTup (g : Rho → Option (List D)) : EF := fun ρ => (g ρ).bind fun ds => if ds.length ≤ sizeLine then some (.tuple ds) else none
def eLst (g : Rho → Option (List D)) : EF := fun ρ => (g ρ).bind fun ds => if ds.length ≤ sizeLine then some (.list ds) else none
theorem dE_tup {es : List Expr} {x1 : Nat} {pos : Pos} {g : Rho → Option (List D)} {μ : Bool} (h : PA X es (tA μ g)) : PE X (.Tuple es x1 pos) (tD μ (eTup g)) := (pe_tupF h).wk fun σ H Q q => by
  obtain ⟨M0, H0, ρ, d, R, e, q⟩ := q
  obtain ⟨ds, ed, e⟩ := some_bind e
  obtain ⟨l, rfl⟩ := iteS e
  exact ⟨M0, H0, ρ, ds, R, ed, fun vs H1 s1 r1 => ⟨by rw [r1.len]; exact l, fun p H2 np s2 t => q _ H2 (s1.trans s2) (.tup t ((R.mono s1).domu μ |>.not np) (by rw [r1.len]; exact l) (r1.mono (.of s2)))⟩⟩
theorem dE_lst {es : List Expr} {pos : Pos} {g : Rho → Option (List D)} {μ : Bool} (h : PA X es (tA μ g)) : PE X (.List es pos) (tD μ (eLst g)) := (pe_lst h).wk fun σ H Q q => by
  obtain ⟨M0, H0, ρ, d, R, e, q⟩ := q
  obtain ⟨ds, ed, e⟩ := some_bind e
  obtain ⟨l, rfl⟩ := iteS e
  exact ⟨M0, H0, ρ, ds, R, ed, fun vs H1 s1 r1 => ⟨by rw [r1.len]; exact l, fun p np => q _ _ (s1.trans (smN np)) (.lst upd_same ((R.mono s1).domu μ |>.not np) (by rw [r1.len]; exact l) (r1.mono (.of (smN np))))⟩⟩
def ixD : D → D → Option D
  | .tuple ds, .int i => atI ds i
  | .list ds, .int i => atI ds i
  | _, _ => none
theorem RpAll.atI {M : Addr → Prop} {H : Hp} {vs : List V} {ds : List D} {i : Int} {d : D} (h : RpAll M H vs ds) (e : L2.atI ds i = some d) : ∃ v, L2.atI vs i = some v ∧ Rp M H v d := by
  unfold L2.atI at e ⊢
  rw [h.len]
  obtain ⟨j, ej, e⟩ := some_bind e
  obtain ⟨v, a, b⟩ := h.get e
  exact ⟨v, by rw [ej]; exact a, b⟩
theorem i_ix : IxR X (rD ixD) := by
  intro ve sl pn s σ H x y v u Q I rx ry h hs
  obtain ⟨M, a, b, d, dm, ra, rb, e, q⟩ := h
  cases ra <;> cases rb <;> try (cases e; done)
  · rename_i t n l r i
    obtain ⟨w, ew, rw⟩ := r.atI (show L2.atI _ _ = some d from e)
    exact ix_tup ve sl pn s σ H _ _ v u Q I rx ry ⟨_, _, i, w, rfl, rfl, t.sq, ew, q w H (Same.refl _) rw⟩ hs
  · rename_i t n l r i
    obtain ⟨w, ew, rw⟩ := r.atI (show L2.atI _ _ = some d from e)
    exact ix_list ve sl pn s σ H _ _ v u Q I rx ry ⟨_, _, i, w, rfl, rfl, SqL.of t, ew, q w H (Same.refl _) rw⟩ hs
theorem dE_ix {a b : Expr} {pos : Pos} {f1 f2 : EF} {μ : Bool} (ha : PE X a (tD μ f1)) (hb : PE X b (tD μ f2)) (hp : PlainIx b := by exact fun _ _ => rfl) : PE X (.Subscript a b pos) (tD μ (e2 ixD f1 f2)) := (pe_ix i_ix ha hb hp).wk fun _ _ _ q => dOp2 q
/-- slices -/
def cutD {α : Type} (xs : List α) (lo hi : Option Int) : List α := (xs.drop (HT.sIx xs.length 0 lo)).take (HT.sIx xs.length xs.length hi - HT.sIx xs.length 0 lo)
def slD : D → Option Int → Option Int → Option D
  | .tuple ds, lo, hi => some (.tuple (cutD ds lo hi))
  | .list ds, lo, hi => some (.list (cutD ds lo hi))
  | _, _, _ => none
theorem RpAll.cut {M : Addr → Prop} {H : Hp} {vs : List V} {ds : List D} (h : RpAll M H vs ds) (lo hi : Option Int) : RpAll M H (cutV vs lo hi) (cutD ds lo hi) := by
  unfold cutV cutD
  rw [h.len]
  exact (h.drop _).take _
def rSlD : V → Option Int → Option Int → Hp → VK → Prop := fun x lo hi H Q => ∃ M a d, Dom M H ∧ Rp M H x a ∧ slD a lo hi = some d ∧ ∀ v H', Same H H' → Rp M H' v d → Q v H'
theorem s_sl : SlR X rSlD := by
  intro pn s σ H x v vl vu lo hi sl Q I rx hs pl pu h
  obtain ⟨M, a, d, dm, ra, e, q⟩ := h
  cases ra <;> try (cases e; done)
  · rename_i a t n l r
    cases e
    refine sl_tupF pn s σ H _ v vl vu lo hi sl Q I rx hs pl pu ⟨_, _, rfl, t, fun p H' hp sm t' => q _ H' sm (.tup t' (fun m => ?_) (Nat.le_trans (cutV_length _ _ _) l) ((r.mono (.of sm)).cut _ _))⟩
    rcases hp with hp | hp
    · exact dm p m hp
    · rw [hp] at m; exact n m
  · rename_i a t n l r
    cases e
    exact sl_list pn s σ H _ v vl vu lo hi sl Q I rx hs pl pu ⟨_, _, rfl, SqL.of t, fun p hp => q _ _ (smN hp) (.lst upd_same (fun m => dm p m hp) (Nat.le_trans (cutV_length _ _ _) l) ((r.mono (.of (smN hp))).cut _ _))⟩
def tPo (f : Rho → Option (Option Int)) : TO := fun σ H Q => ∃ M0 H0 ρ o, Rs M0 H0 H σ ρ ∧ f ρ = some o ∧ ∀ H', Same H H' → Q o H'
def pNone : Rho → Option (Option Int) := fun _ => some none
def pSome (f : EF) : Rho → Option (Option Int) := fun ρ => (f ρ).bind fun d => match d with | .int i => some (some i) | _ => none
theorem _root_.L2.PO.wk {e : Option Expr} {t t' : TO} (h : PO X e t) (m : ∀ σ H Q, t' σ H Q → t σ H Q) : PO X e t' := ⟨fun pn s σ H Q I q => h.run pn s σ H Q I (m _ _ _ q)⟩
theorem dO_none : PO X none (tPo pNone) := po_none.wk fun σ H Q q => by
  obtain ⟨M0, H0, ρ, o, R, e, q⟩ := q
  cases e
  exact q _ (Same.refl _)
theorem dO_some {e : Expr} {f : EF} {μ : Bool} (h : PE X e (tD μ f)) : PO X (some e) (tPo (pSome f)) := (po_some h).wk fun σ H Q q => by
  obtain ⟨M0, H0, ρ, o, R, e, q⟩ := q
  obtain ⟨d, ed, e⟩ := some_bind e
  refine ⟨M0, H0, ρ, d, R, ed, fun v H1 s1 r1 => ?_⟩
  cases r1 <;> cases e
  exact ⟨_, rfl, q _ s1⟩
def eSl (f : EF) (lo hi : Rho → Option (Option Int)) : EF := fun ρ => (f ρ).bind fun d => (lo ρ).bind fun l => (hi ρ).bind fun h => slD d l h
theorem dE_sl {e : Expr} {lo hi : Option Expr} {pos p2 : Pos} {f : EF} {g h : Rho → Option (Option Int)} {μ : Bool} (he : PE X e (tD μ f)) (hl : PO X lo (tPo g)) (hh : PO X hi (tPo h)) : PE X (.Subscript e (.Slice lo hi none p2) pos) (tD μ (eSl f g h)) := (pe_slice s_sl he hl hh).wk fun σ H Q q => by
  obtain ⟨M0, H0, ρ, d, R, e, q⟩ := q
  obtain ⟨d1, e1, e⟩ := some_bind e
  obtain ⟨l, el, e⟩ := some_bind e
  obtain ⟨u, eu, e⟩ := some_bind e
  exact ⟨M0, H0, ρ, d1, R, e1, fun v H1 s1 r1 => ⟨M0, H0, ρ, l, R.mono s1, el, fun H2 s2 => ⟨M0, H0, ρ, u, R.mono (s1.trans s2), eu, fun H3 s3 => ⟨_, d1, d, (R.mono ((s1.trans s2).trans s3)).domu μ, r1.mono (.of (s2.trans s3)), e, fun v H4 s4 r4 => q v H4 (((s1.trans s2).trans s3).trans s4) r4⟩⟩⟩⟩
/-! calls -/
def rC (g : List D → Option D) : List V → Hp → VK → Prop := fun xs H Q => ∃ M ds d, Dom M H ∧ RpAll M H xs ds ∧ g ds = some d ∧ ∀ v H', Same H H' → Rp M H' v d → Q v H'
def eCall (g : List D → Option D) (f : Rho → Option (List D)) : EF := fun ρ => (f ρ).bind g
theorem dCall {g : List D → Option D} {f : Rho → Option (List D)} {μ : Bool} {σ : L2.St} {H : Hp} {Q : VK} (q : tD μ (eCall g f) σ H Q) : tCB (rC g) (tA μ f) σ H Q := by
  obtain ⟨M0, H0, ρ, d, R, e, q⟩ := q
  obtain ⟨ds, ed, e⟩ := some_bind e
  exact ⟨M0, H0, ρ, ds, R, ed, fun vs H1 s1 r1 => ⟨_, ds, d, (R.mono s1).domu μ, r1, e, fun v H2 s2 r2 => q v H2 (s1.trans s2) r2⟩⟩
def spD (n : Nat) (g : List D → Option D) : Sp := fun vs H Q _ => ∃ M ds d, Dom M H ∧ RpAll M H vs ds ∧ ds.length = n ∧ g ds = some d ∧ ∀ v H', Same H H' → Rp M H' v d → Q v H'
def gN (n : Nat) (g : List D → Option D) : List D → Option D := fun ds => if ds.length = n then g ds else none
theorem dE_cl {k n : Nat} {x : Str} {ps : List Str} {g : List D → Option D} {p pos : Pos} {e : Expr} {es : List Expr} {f : Rho → Option (List D)} {μ : Bool} (C : Cl X.prog X.w X.K X.mg X.base k x ps (spD n g)) (hr : Room k X.A) (hg : Gl X x) (ha : PA X (e :: es) (tA μ f))
    (hdb : (x == ("__debug__" : Str)) = false := by decide) (he : starEach (e :: es) X.env = (false, eval e X.env) :: starEach es X.env := by rfl) (hpl : (backTo pos (starEach es X.env)).any (·.1) = false := by rfl) :
    PE X (.Call (.Name x p) (e :: es) [] pos) (tD μ (eCall (gN n g) f)) := (pe_cl C hr hg ha hdb he hpl).wk fun σ H Q q => by
  obtain ⟨M0, H0, ρ, d, R, e, q⟩ := q
  obtain ⟨ds, ed, e⟩ := some_bind e
  refine ⟨M0, H0, ρ, ds, R, ed, fun vs H1 s1 r1 => ?_⟩
  unfold gN at e
  split at e
  · rename_i l
    rw [List.append_nil]
    exact ⟨_, ds, d, (R.mono s1).domu μ, r1, l, e, fun v H2 s2 r2 => q v H2 (s1.trans s2) r2⟩
  · cases e
end
end Dl
namespace Dl
open PySem PySem.Spec PyProof.Rows L2 Rt
/-! ### targets -/
mutual
inductive Pat
  | nm (i : Nat)
  | tp (ps : Pats)
inductive Pats
  | nil
  | cons (p : Pat) (ps : Pats)
end
def Pats.len : Pats → Nat
  | .nil => 0
  | .cons _ ps => ps.len + 1
mutual
def gP (K : PySem.W.Frag) : Pat → TG
  | .nm i => gName i
  | .tp ps => gTup K ps.len (gPs K ps)
def gPs (K : PySem.W.Frag) : Pats → TGs
  | .nil => gNil
  | .cons p ps => gCons (gP K p) (gPs K ps)
end
mutual
def bindP : Pat → D → Rho → Option Rho
  | .nm i, d, ρ => if i < ρ.length then some (ρ.set i (some (.dat d))) else none
  | .tp ps, .tuple ds, ρ => bindPs ps ds ρ
  | .tp _, _, _ => none
def bindPs : Pats → List D → Rho → Option Rho
  | .nil, [], ρ => some ρ
  | .cons p ps, d :: ds, ρ => (bindP p d ρ).bind fun ρ1 => bindPs ps ds ρ1
  | _, _, _ => none
end
mutual
def slP : Pat → List Nat
  | .nm i => [i]
  | .tp ps => slPs ps
def slPs : Pats → List Nat
  | .nil => []
  | .cons p ps => slP p ++ slPs ps
end
theorem set_get {α : Type} {xs : List α} {i j : Nat} {x y : α} (h : (xs.set i x)[j]? = some y) : (i = j ∧ y = x) ∨ (i ≠ j ∧ xs[j]? = some y) := by
  rw [List.getElem?_set] at h
  by_cases e : i = j
  · rw [if_pos e] at h
    split at h
    · cases h; exact .inl ⟨e, rfl⟩
    · cases h
  · rw [if_neg e] at h; exact .inr ⟨e, h⟩
theorem set_same {α : Type} {xs : List α} {i : Nat} {x : α} (h : i < xs.length) : (xs.set i x)[i]? = some x := by
  rw [List.getElem?_set, if_pos rfl, if_pos h]
theorem set_other {α : Type} {xs : List α} {i j : Nat} {x : α} (h : i ≠ j) : (xs.set i x)[j]? = xs[j]? := by
  rw [List.getElem?_set, if_neg h]
theorem Mu.shrink {M0 : Addr → Prop} {σ : L2.St} {ρ : Rho} {i : Nat} {w : Option V} {lv : Option LV} (h : ∀ ds, lv ≠ some (.own ds)) : ∀ a, Mu true M0 (σ.set i w) (ρ.set i lv) a → Mu true M0 σ ρ a := fun a m => by
  rcases m with m | ⟨_, j, ds, e1, e2⟩
  · exact .inl m
  · rcases set_get e1 with ⟨_, e⟩ | ⟨n, e⟩
    · exact (h ds e.symm).elim
    · rw [set_other n] at e2
      exact .inr ⟨rfl, j, ds, e, e2⟩
theorem Rs.set {M0 : Addr → Prop} {H0 H : Hp} {σ : L2.St} {ρ : Rho} {i : Nat} {v : V} {d : D} (R : Rs M0 H0 H σ ρ) (r : Rp (Mu true M0 σ ρ) H v d) : Rs M0 H0 H (σ.set i (some v)) (ρ.set i (some (.dat d))) := by
  have sh : ∀ a, Mu true M0 (σ.set i (some v)) (ρ.set i (some (.dat d))) a → Mu true M0 σ ρ a ∨ H a = none := fun a m => .inl (Mu.shrink (fun ds e => by cases e) a m)
  refine ⟨R.sm, R.dom, by rw [List.length_set, List.length_set]; exact R.len, fun j d' e => ?_, fun j ds e => ?_, fun j w e => ?_, fun j k a b p e1 e2 e3 e4 => ?_⟩
  · rcases set_get e with ⟨rfl, e9⟩ | ⟨n, e⟩
    · cases e9
      have hl : i < ρ.length := by
        have := (List.getElem?_eq_some_iff.mp (by assumption : (ρ.set i _)[i]? = _)).1
        rwa [List.length_set] at this
      exact ⟨v, set_same (by rw [← R.len]; exact hl), r.reM sh⟩
    · obtain ⟨w, x, y⟩ := R.dat j d' e
      exact ⟨w, by rw [set_other n]; exact x, y.reM sh⟩
  · rcases set_get e with ⟨rfl, e9⟩ | ⟨n, e⟩
    · cases e9
    · obtain ⟨p, vs, x, y, z, l, w⟩ := R.own j ds e
      exact ⟨p, vs, by rw [set_other n]; exact x, y, z, l, w.reM sh⟩
  · rcases set_get e with ⟨rfl, e9⟩ | ⟨n, e⟩
    · cases e9
    · rw [set_other n]; exact R.raw j w e
  · rcases set_get e1 with ⟨rfl, e⟩ | ⟨n1, f1⟩
    · cases e
    rcases set_get e2 with ⟨rfl, e⟩ | ⟨n2, f2⟩
    · cases e
    rw [set_other n1] at e3
    rw [set_other n2] at e4
    exact R.inj j k a b p f1 f2 e3 e4
theorem Rs.clear {M0 : Addr → Prop} {H0 H : Hp} {σ : L2.St} {ρ : Rho} (i : Nat) (w : Option V) (R : Rs M0 H0 H σ ρ) : Rs M0 H0 H (σ.set i w) (ρ.set i none) := by
  have sh : ∀ a, Mu true M0 (σ.set i w) (ρ.set i none) a → Mu true M0 σ ρ a ∨ H a = none := fun a m => .inl (Mu.shrink (fun ds e => by cases e) a m)
  refine ⟨R.sm, R.dom, by rw [List.length_set, List.length_set]; exact R.len, fun j d' e => ?_, fun j ds e => ?_, fun j w e => ?_, fun j k a b p e1 e2 e3 e4 => ?_⟩
  · rcases set_get e with ⟨rfl, e9⟩ | ⟨n, e⟩
    · cases e9
    · obtain ⟨w, x, y⟩ := R.dat j d' e
      exact ⟨w, by rw [set_other n]; exact x, y.reM sh⟩
  · rcases set_get e with ⟨rfl, e9⟩ | ⟨n, e⟩
    · cases e9
    · obtain ⟨p, vs, x, y, z, l, w⟩ := R.own j ds e
      exact ⟨p, vs, by rw [set_other n]; exact x, y, z, l, w.reM sh⟩
  · rcases set_get e with ⟨rfl, e9⟩ | ⟨n, e⟩
    · cases e9
    · rw [set_other n]; exact R.raw j w e
  · rcases set_get e1 with ⟨rfl, e⟩ | ⟨n1, f1⟩
    · cases e
    rcases set_get e2 with ⟨rfl, e⟩ | ⟨n2, f2⟩
    · cases e
    rw [set_other n1] at e3
    rw [set_other n2] at e4
    exact R.inj j k a b p f1 f2 e3 e4
/-- an item of a walk: data, or a pair just made of data -/
def RpI (pr : Bool) (M : Addr → Prop) (H : Hp) (v : V) (d : D) : Prop := Rp M H v d ∨ (pr = true ∧ ∃ a xs ds, v = .ref a ∧ d = .tuple ds ∧ H a = some (.tup xs) ∧ RpAll M H xs ds)
def Pat.fits (pr : Bool) : Pat → Bool
  | .nm _ => !pr
  | .tp _ => true
structure Bnd (M0 : Addr → Prop) (σ : L2.St) (ρ : Rho) (sl : List Nat) (σ' : L2.St) (ρ' : Rho) : Prop where
  oth : ∀ j, j ∉ sl → σ'[j]? = σ[j]?
  len : σ'.length = σ.length
  mu : ∀ a, Mu true M0 σ' ρ' a → Mu true M0 σ ρ a
mutual
theorem bindP.ok {K : PySem.W.Frag} {M0 : Addr → Prop} {H0 H : Hp} : ∀ {p : Pat} {σ : L2.St} {ρ ρ' : Rho} {v : V} {d : D} {Q : L2.St → Hp → Prop} {pr : Bool}, Rs M0 H0 H σ ρ → RpI pr (Mu true M0 σ ρ) H v d → p.fits pr = true → bindP p d ρ = some ρ' →
    (∀ σ', Rs M0 H0 H σ' ρ' → Bnd M0 σ ρ (slP p) σ' ρ' → Q σ' H) → gP K p v σ H Q
  | .nm i, σ, ρ, ρ', v, d, Q, pr, R, r, ft, e, q => by
    have hpr : pr = false := by cases pr <;> first | rfl | cases ft
    subst hpr
    have r : Rp (Mu true M0 σ ρ) H v d := by
      rcases r with r | ⟨z, _⟩
      · exact r
      · cases z
    unfold bindP at e
    obtain ⟨l, rfl⟩ := iteS e
    refine q _ (R.set r) ⟨fun j hj => set_other fun z => hj (by rw [z]; exact List.mem_singleton.mpr rfl), List.length_set .., Mu.shrink fun ds e => by cases e⟩
  | .tp ps, σ, ρ, ρ', v, d, Q, pr, R, r, ft, e, q => by
    rcases r with r | ⟨_, a, xs, ds, rfl, rfl, t, r⟩
    · cases r <;> try (cases e; done)
      rename_i xs ds t n l r
      have hl := bindPs.len (show bindPs ps ds ρ = some ρ' from e)
      exact ⟨_, xs, rfl, t.sq, by rw [r.len]; exact hl, bindPs.ok R r e q⟩
    · have hl := bindPs.len (show bindPs ps ds ρ = some ρ' from e)
      exact ⟨_, xs, rfl, SqT.of t, by rw [r.len]; exact hl, bindPs.ok R r e q⟩
theorem bindPs.ok {K : PySem.W.Frag} {M0 : Addr → Prop} {H0 H : Hp} : ∀ {ps : Pats} {σ : L2.St} {ρ ρ' : Rho} {vs : List V} {ds : List D} {Q : L2.St → Hp → Prop}, Rs M0 H0 H σ ρ → RpAll (Mu true M0 σ ρ) H vs ds → bindPs ps ds ρ = some ρ' →
    (∀ σ', Rs M0 H0 H σ' ρ' → Bnd M0 σ ρ (slPs ps) σ' ρ' → Q σ' H) → gPs K ps vs σ H Q
  | .nil, σ, ρ, ρ', vs, ds, Q, R, r, e, q => by
    cases r with
    | nil => cases e; exact ⟨rfl, q σ R ⟨fun _ _ => rfl, rfl, fun a m => m⟩⟩
    | cons h t => cases e
  | .cons p ps, σ, ρ, ρ', vs, ds, Q, R, r, e, q => by
    cases r with
    | nil => cases e
    | cons h t =>
      unfold bindPs at e
      obtain ⟨ρ1, e1, e⟩ := some_bind e
      refine ⟨_, _, rfl, bindP.ok (pr := false) R (.inl h) (by cases p <;> rfl) e1 fun σ1 R1 B1 => ?_⟩
      refine bindPs.ok R1 (t.reM fun a m => .inl (B1.mu a m)) e fun σ2 R2 B2 => q σ2 R2 ⟨fun j hj => ?_, B2.len.trans B1.len, fun a m => B1.mu a (B2.mu a m)⟩
      have hj : j ∉ slP p ++ slPs ps := hj
      rw [List.mem_append, not_or] at hj
      rw [B2.oth j hj.2, B1.oth j hj.1]
theorem bindPs.len : ∀ {ps : Pats} {ds : List D} {ρ ρ' : Rho}, bindPs ps ds ρ = some ρ' → ds.length = ps.len
  | .nil, [], _, _, _ => rfl
  | .nil, _ :: _, _, _, e => nomatch e
  | .cons _ _, [], _, _, e => nomatch e
  | .cons p ps, d :: ds, ρ, ρ', e => by
    unfold bindPs at e
    obtain ⟨ρ1, e1, e⟩ := some_bind e
    exact congrArg (· + 1) (bindPs.len e)
end
/-! ### walks -/
structure DW (pr : Bool) (M : Addr → Prop) (H1 : Hp) (J : It) (items : List D) : Prop where
  ex : ∃ G Y, Walk J items.length G Y ∧ (∀ H2, KpM M H1 H2 → G H2) ∧ ∀ i v Ha Hb, KpM M H1 Ha → Y i Ha v Hb → ∃ d, items[i]? = some d ∧ Same Ha Hb ∧ RpI pr M Hb v d
  sz : items.length ≤ sizeLine
def iD (μ pr : Bool) (it : Rho → Option (List D)) : TI := fun σ H R => ∃ M0 H0 ρ items, Rs M0 H0 H σ ρ ∧ it ρ = some items ∧ ∀ J H', Same H H' → (∀ M', (∀ a, M' a → Mu μ M0 σ ρ a ∨ H' a = none) → DW pr M' H' J items) → R J H'
def seqD : D → Option (List D)
  | .tuple ds => some ds
  | .list ds => some ds
  | _ => none
def itSeq (f : EF) : Rho → Option (List D) := fun ρ => (f ρ).bind seqD
theorem DW.tup {K : PySem.W.Frag} {M : Addr → Prop} {H : Hp} {a : Addr} {xs : List V} {ds : List D} (t : TupF H a xs) (n : ¬ M a) (l : xs.length ≤ sizeLine) (r : RpAll M H xs ds) : DW false M H (Itt K a) ds := by
  obtain ⟨o, e, z⟩ := t
  refine ⟨⟨fun H => SqT K H a xs, YAt xs, by rw [← r.len]; exact walk_tup, fun H2 k => TupF.sq ⟨o, k _ _ n e, z⟩, fun i v Ha Hb k y => ?_⟩, by rw [← r.len]; exact l⟩
  obtain ⟨rfl, y⟩ := y
  obtain ⟨d, e1, e2⟩ := (r.mono k).getV y
  exact ⟨d, e1, Same.refl _, .inl e2⟩
theorem DW.lst {K : PySem.W.Frag} {M : Addr → Prop} {H : Hp} {a : Addr} {xs : List V} {ds : List D} (t : H a = some (.lst xs)) (n : ¬ M a) (l : xs.length ≤ sizeLine) (r : RpAll M H xs ds) : DW false M H (Itl K a) ds := by
  refine ⟨⟨fun H => SqL K H a xs, YAt xs, by rw [← r.len]; exact walk_list, fun H2 k => SqL.of (k _ _ n t), fun i v Ha Hb k y => ?_⟩, by rw [← r.len]; exact l⟩
  obtain ⟨rfl, y⟩ := y
  obtain ⟨d, e1, e2⟩ := (r.mono k).getV y
  exact ⟨d, e1, Same.refl _, .inl e2⟩
theorem nM {M M' : Addr → Prop} {H : Hp} {a : Addr} {o : HO} (hM : ∀ a, M' a → M a ∨ H a = none) (n : ¬ M a) (e : H a = some o) : ¬ M' a := fun m => (hM _ m).elim n fun z => by rw [z] at e; cases e
theorem nMT {M M' : Addr → Prop} {H : Hp} {a : Addr} {xs : List V} (hM : ∀ a, M' a → M a ∨ H a = none) (n : ¬ M a) (e : TupF H a xs) : ¬ M' a := by
  obtain ⟨o, e, _⟩ := e
  exact nM hM n e
section
variable {X : Cx}
theorem dI_seq {tg e : Expr} {f : EF} {μ : Bool} (h : PE X e (tD μ f)) : PI X tg e (iD μ false (itSeq f)) := ⟨fun pn s σ H R I q => by
  obtain ⟨M0, H0, ρ, items, Rr, e, q⟩ := q
  obtain ⟨d, ed, e⟩ := some_bind e
  cases d <;> try (cases e; done)
  · cases e
    refine (pi_list (tg := tg) h).run pn s σ H R I ⟨M0, H0, ρ, _, Rr, ed, fun v H1 s1 r1 => ?_⟩
    cases r1 with
    | lst t n l r => exact ⟨_, rfl, ⟨_, SqL.of t⟩, q _ _ s1 fun M' hM => DW.lst t (nM hM n t) l (r.reM hM)⟩
  · cases e
    refine (pi_tup (tg := tg) h).run pn s σ H R I ⟨M0, H0, ρ, _, Rr, ed, fun v H1 s1 r1 => ?_⟩
    cases r1 with
    | tup t n l r => exact ⟨_, rfl, ⟨_, t.sq⟩, q _ _ s1 fun M' hM => DW.tup t (nMT hM n t) l (r.reM hM)⟩⟩
def rgD (lo : Int) (n : Nat) : List D := (List.range n).map fun (i : Nat) => PyData.int (lo + (i : Int))
def ran1D : List D → Option (List D)
  | [.int j] => if -(2 ^ 62) ≤ j ∧ j < 2 ^ 20 then some (rgD 0 j.toNat) else none
  | _ => none
def ran2D : List D → Option (List D)
  | [.int i, .int j] => if -(2 ^ 62) ≤ i ∧ i < 2 ^ 62 ∧ -(2 ^ 62) ≤ j ∧ j < 2 ^ 62 ∧ j - i < 2 ^ 20 then some (rgD i (j - i).toNat) else none
  | _ => none
def itG (g : List D → Option (List D)) (f : Rho → Option (List D)) : Rho → Option (List D) := fun ρ => (f ρ).bind g
theorem szR {n : Nat} (h : n ≤ 2 ^ 20) : n ≤ sizeLine := Nat.le_trans h (by decide)
theorem DW.rng {M : Addr → Prop} {H : Hp} {lo : Int} {n : Nat} (l : n ≤ sizeLine) : DW false M H (Itr lo n) (rgD lo n) := by
  have hl : (rgD lo n).length = n := by unfold rgD; rw [List.length_map, List.length_range]
  refine ⟨⟨fun _ => True, fun i H x H' => i < n ∧ YFn (fun i => V.int (lo + i)) i H x H', ?_, fun _ _ => trivial, fun i v Ha Hb k y => ?_⟩, by rw [hl]; exact l⟩
  · rw [hl]
    exact ⟨walk_range.goes, walk_range.stops, fun i H x H' hi g y => ⟨hi, walk_range.yields i H x H' hi g y⟩⟩
  · obtain ⟨hi, rfl, rfl⟩ := y
    refine ⟨.int (lo + i), ?_, Same.refl _, .inl (.int _)⟩
    unfold rgD
    rw [List.getElem?_map, List.getElem?_range hi]
    rfl
theorem dI_ran1 {tg a : Expr} {p pos : Pos} {f : Rho → Option (List D)} {μ : Bool} (hg : Gl X "range") (hm : X.mg "range" = none) (ha : PA X [a] (tA μ f)) (hs : starEach [a] X.env = [(false, eval a X.env)] := by rfl) : PI X tg (.Call (.Name "range" p) [a] [] pos) (iD μ false (itG ran1D f)) := (pi_range1 hg hm ha hs).wk fun σ H R q => by
  obtain ⟨M0, H0, ρ, items, Rr, e, q⟩ := q
  obtain ⟨ds, ed, e⟩ := some_bind e
  refine ⟨M0, H0, ρ, ds, Rr, ed, fun vs H1 s1 r1 => ?_⟩
  cases r1 with
  | nil => cases e
  | cons h t =>
    cases t with
    | nil =>
      cases h <;> try (cases e; done)
      obtain ⟨l, rfl⟩ := iteS e
      exact ⟨_, rfl, l.1, by omega, q _ _ s1 fun M' hM => DW.rng (szR (by omega))⟩
    | cons h2 t => cases h <;> cases e
theorem dI_ran2 {tg a b : Expr} {p pos : Pos} {f : Rho → Option (List D)} {μ : Bool} (hg : Gl X "range") (hm : X.mg "range" = none) (ha : PA X [a, b] (tA μ f)) (hs : starEach [a, b] X.env = [(false, eval a X.env), (false, eval b X.env)] := by rfl) (hs2 : starEach [b] X.env = [(false, eval b X.env)] := by rfl) : PI X tg (.Call (.Name "range" p) [a, b] [] pos) (iD μ false (itG ran2D f)) := (pi_range2 hg hm ha hs hs2).wk fun σ H R q => by
  obtain ⟨M0, H0, ρ, items, Rr, e, q⟩ := q
  obtain ⟨ds, ed, e⟩ := some_bind e
  refine ⟨M0, H0, ρ, ds, Rr, ed, fun vs H1 s1 r1 => ?_⟩
  cases r1 with
  | nil => cases e
  | cons h t =>
    cases t with
    | nil => cases h <;> cases e
    | cons h2 t =>
      cases t with
      | cons h3 t => cases h <;> cases h2 <;> cases e
      | nil =>
        cases h <;> cases h2 <;> try (cases e; done)
        obtain ⟨l, rfl⟩ := iteS e
        exact ⟨_, _, rfl, ⟨l.1, l.2.1, l.2.2.1, l.2.2.2.1⟩, q _ _ s1 fun M' hM => DW.rng (szR (by omega))⟩
def enGo : Nat → List D → List D
  | _, [] => []
  | i, d :: ds => .tuple [.int (i : Int), d] :: enGo (i + 1) ds
theorem enGo.len : ∀ (i : Nat) (ds : List D), (enGo i ds).length = ds.length
  | _, [] => rfl
  | i, d :: ds => congrArg (· + 1) (enGo.len (i + 1) ds)
theorem enGo.get : ∀ (i : Nat) (ds : List D) (j : Nat) (d : D), ds[j]? = some d → (enGo i ds)[j]? = some (.tuple [.int ((i + j : Nat) : Int), d])
  | _, [], _, _, e => nomatch e
  | i, d :: ds, 0, _, e => by cases e; rfl
  | i, d :: ds, j + 1, _, e => by
    have := enGo.get (i + 1) ds j _ e
    rw [show i + (j + 1) = i + 1 + j by omega]
    exact this
def enD : List D → Option (List D)
  | [.tuple ds] => some (enGo 0 ds)
  | [.list ds] => some (enGo 0 ds)
  | _ => none
theorem DW.pair {M : Addr → Prop} {H : Hp} {J : It} {n : Nat} {G : Hp → Prop} {fx fy : Nat → Option V} {items : List D} (W : Walk J n G (YPair fx fy)) (hn : n = items.length) (sz : n ≤ sizeLine) (hG : ∀ H2, KpM M H H2 → G H2)
    (hy : ∀ i x y Ha, KpM M H Ha → fx i = some x → fy i = some y → ∃ a b, items[i]? = some (.tuple [a, b]) ∧ Rp M Ha x a ∧ Rp M Ha y b) : DW true M H J items := by
  subst hn
  refine ⟨⟨G, YPair fx fy, W, hG, fun i v Ha Hb k y => ?_⟩, sz⟩
  obtain ⟨T, x, y, rfl, nT, rfl, ex, ey⟩ := y
  obtain ⟨a, b, e, ra, rb⟩ := hy i x y Ha k ex ey
  exact ⟨_, e, smN nT, .inr ⟨rfl, T, _, _, rfl, rfl, upd_same, .cons (ra.mono (.of (smN nT))) (.cons (rb.mono (.of (smN nT))) .nil)⟩⟩
theorem dI_enum {e : Expr} {p pos tpos : Pos} {elts : List Expr} {kk : Nat} {f : Rho → Option (List D)} {μ : Bool} (hg : Gl X "enumerate") (hm : X.mg "enumerate" = none) (ha : PA X [e] (tA μ f)) (hs : starEach [e] X.env = [(false, eval e X.env)] := by rfl) : PI X (.Tuple elts kk tpos) (.Call (.Name "enumerate" p) [e] [] pos) (iD μ true (itG enD f)) := ⟨fun pn s σ H R I q => by
  obtain ⟨M0, H0, ρ, items, Rr, e, q⟩ := q
  obtain ⟨ds, ed, e⟩ := some_bind e
  match ds, e with
  | [.list ds], e =>
    cases e
    refine (pi_enum hg hm ha hs).run pn s σ H R I ⟨M0, H0, ρ, _, Rr, ed, fun vs H1 s1 r1 => ?_⟩
    cases r1 with
    | cons h t =>
      cases t
      cases h with
      | lst t n l r =>
        refine ⟨_, _, rfl, SqL.of t, q _ _ s1 fun M' hM => DW.pair walk_enum (by rw [enGo.len, r.len]) l (fun H2 k => SqL.of (k _ _ (nM hM n t) t)) fun i x y Ha k ex ey => ?_⟩
        cases ex
        obtain ⟨d, e1, e2⟩ := ((r.reM hM).mono k).getV ey
        exact ⟨_, d, by rw [enGo.get 0 _ _ _ e1, Nat.zero_add], .int _, e2⟩
  | [.tuple ds], e =>
    cases e
    refine (pi_enumT hg hm ha hs).run pn s σ H R I ⟨M0, H0, ρ, _, Rr, ed, fun vs H1 s1 r1 => ?_⟩
    cases r1 with
    | cons h t =>
      cases t
      cases h with
      | tup t n l r =>
        refine ⟨_, _, rfl, t.sq, q _ _ s1 fun M' hM => DW.pair walk_enumT (by rw [enGo.len, r.len]) l (fun H2 k => ?_) fun i x y Ha k ex ey => ?_⟩
        · have n := nMT hM n t
          obtain ⟨o, e, z⟩ := t
          exact TupF.sq ⟨o, k _ _ n e, z⟩
        cases ex
        obtain ⟨d, e1, e2⟩ := ((r.reM hM).mono k).getV ey
        exact ⟨_, d, by rw [enGo.get 0 _ _ _ e1, Nat.zero_add], .int _, e2⟩⟩
def zpGo : List D → List D → List D
  | a :: as, b :: bs => .tuple [a, b] :: zpGo as bs
  | _, _ => []
theorem zpGo.len : ∀ (as bs : List D), (zpGo as bs).length = min as.length bs.length
  | [], bs => by cases bs <;> rfl
  | a :: as, [] => rfl
  | a :: as, b :: bs => by
    show (zpGo as bs).length + 1 = min (as.length + 1) (bs.length + 1)
    rw [zpGo.len as bs]
    omega
theorem zpGo.get : ∀ (as bs : List D) (j : Nat) (a b : D), as[j]? = some a → bs[j]? = some b → (zpGo as bs)[j]? = some (.tuple [a, b])
  | [], _, _, _, _, e, _ => nomatch e
  | _ :: _, [], _, _, _, _, e => nomatch e
  | a :: as, b :: bs, 0, _, _, e, f => by cases e; cases f; rfl
  | a :: as, b :: bs, j + 1, _, _, e, f => zpGo.get as bs j _ _ e f
def zpD : List D → Option (List D)
  | [.tuple a, .tuple b] => some (zpGo a b)
  | [.list a, .list b] => some (zpGo a b)
  | _ => none
theorem walk_zipX {K : PySem.W.Frag} {a b : Addr} {xs ys : List V} : Walk (RZ.ItzT K a b) (min xs.length ys.length) (fun H => SqT K H a xs ∧ SqT K H b ys) (YPair (fun i => xs[i]?) (fun i => ys[i]?)) := by
  refine ⟨fun i H hi z => ?_, fun H z => ⟨xs, ys, z.1, z.2, by omega⟩, fun i H v H' hi z y => ?_⟩
  · have h1 : i < xs.length := by omega
    have h2 : i < ys.length := by omega
    exact ⟨xs, ys, xs[i], ys[i], z.1, z.2, by simp [h1], by simp [h2]⟩
  · obtain ⟨T, x, u, h1, h2, h3, h4, h5⟩ := y
    exact ⟨T, x, u, h1, h2, h3, h4 xs z.1, h5 ys z.2⟩
theorem walk_zipY {K : PySem.W.Frag} {a b : Addr} {xs ys : List V} : Walk (L2.Itz K a b) (min xs.length ys.length) (fun H => SqL K H a xs ∧ SqL K H b ys) (YPair (fun i => xs[i]?) (fun i => ys[i]?)) := by
  refine ⟨fun i H hi z => ?_, fun H z => ⟨xs, ys, z.1, z.2, by omega⟩, fun i H v H' hi z y => ?_⟩
  · have h1 : i < xs.length := by omega
    have h2 : i < ys.length := by omega
    exact ⟨xs, ys, xs[i], ys[i], z.1, z.2, by simp [h1], by simp [h2]⟩
  · obtain ⟨T, x, u, h1, h2, h3, h4, h5⟩ := y
    exact ⟨T, x, u, h1, h2, h3, h4 xs z.1, h5 ys z.2⟩
theorem dI_zip {e e2 : Expr} {p pos tpos : Pos} {elts : List Expr} {kk : Nat} {f : Rho → Option (List D)} {μ : Bool} (hg : Gl X "zip") (hm : X.mg "zip" = none) (ha : PA X [e, e2] (tA μ f)) (hs : starEach [e, e2] X.env = (false, eval e X.env) :: starEach [e2] X.env := by rfl) (hpl : (backTo pos (starEach [e2] X.env)).any (·.1) = false := by rfl) :
    PI X (.Tuple elts kk tpos) (.Call (.Name "zip" p) [e, e2] [] pos) (iD μ true (itG zpD f)) := (RZ.pi_zipA hg hm ha hs hpl).wk fun σ H R q => by
  obtain ⟨M0, H0, ρ, items, Rr, e, q⟩ := q
  obtain ⟨ds, ed, e⟩ := some_bind e
  refine ⟨M0, H0, ρ, ds, Rr, ed, fun vs H1 s1 r1 => ?_⟩
  match ds, e, r1 with
  | [.tuple a, .tuple b], e, .cons (@Rp.tup _ _ a1 xs1 _ t n l r) (.cons (@Rp.tup _ _ a2 xs2 _ t2 n2 l2 r2) .nil) =>
    cases e
    refine ⟨_, _, _, _, rfl, .inr ⟨t.sq, t2.sq, q _ _ s1 fun M' hM => DW.pair (walk_zipX (xs := xs1) (ys := xs2)) (by rw [zpGo.len, r.len, r2.len]) (by omega) (fun H2 k => ?_) fun i x y Ha k ex ey => ?_⟩⟩
    · have n := nMT hM n t
      have n2 := nMT hM n2 t2
      obtain ⟨o, e, z⟩ := t
      obtain ⟨o2, e2, z2⟩ := t2
      exact ⟨TupF.sq ⟨o, k _ _ n e, z⟩, TupF.sq ⟨o2, k _ _ n2 e2, z2⟩⟩
    · obtain ⟨d, e1, e2⟩ := ((r.reM hM).mono k).getV ex
      obtain ⟨d', e3, e4⟩ := ((r2.reM hM).mono k).getV ey
      exact ⟨d, d', zpGo.get _ _ _ _ _ e1 e3, e2, e4⟩
  | [.list a, .list b], e, .cons (@Rp.lst _ _ a1 xs1 _ t n l r) (.cons (@Rp.lst _ _ a2 xs2 _ t2 n2 l2 r2) .nil) =>
    cases e
    refine ⟨_, _, _, _, rfl, .inl ⟨SqL.of t, SqL.of t2, q _ _ s1 fun M' hM => DW.pair (walk_zipY (xs := xs1) (ys := xs2)) (by rw [zpGo.len, r.len, r2.len]) (by omega) (fun H2 k => ⟨SqL.of (k _ _ (nM hM n t) t), SqL.of (k _ _ (nM hM n2 t2) t2)⟩) fun i x y Ha k ex ey => ?_⟩⟩
    obtain ⟨d, e1, e2⟩ := ((r.reM hM).mono k).getV ex
    obtain ⟨d', e3, e4⟩ := ((r2.reM hM).mono k).getV ey
    exact ⟨d, d', zpGo.get _ _ _ _ _ e1 e3, e2, e4⟩
end
end Dl
namespace Dl
open PySem PySem.Spec PyProof.Rows L2 Rt
/-! ### comprehensions -/
def sealL (μ : Bool) : Option LV → Option LV
  | some (.own ds) => if μ = true then none else some (.dat (.list ds))
  | x => x
def shutR (μ : Bool) (ρ : Rho) : Rho := ρ.map (sealL μ)
def wipeR : Rho → List Nat → Rho
  | ρ, [] => ρ
  | ρ, v :: vs => (wipeR ρ vs).set v none
theorem wipe_get {σ : L2.St} : ∀ {vs : List Nat} {j : Nat}, j ∉ vs → (wipe σ vs)[j]? = σ[j]?
  | [], _, _ => rfl
  | v :: vs, j, h => by
    have h : j ≠ v ∧ j ∉ vs := by simpa using h
    show ((wipe σ vs).set v none)[j]? = σ[j]?
    rw [set_other h.1.symm, wipe_get h.2]
theorem wipe_len {σ : L2.St} : ∀ {vs : List Nat}, (wipe σ vs).length = σ.length
  | [] => rfl
  | v :: vs => by
    show ((wipe σ vs).set v none).length = σ.length
    rw [List.length_set, wipe_len]
theorem wipe_in {σ : L2.St} : ∀ {vs : List Nat} {j : Nat}, j ∈ vs → (wipe σ vs)[j]? = if j < σ.length then some none else none
  | v :: vs, j, h => by
    show ((wipe σ vs).set v none)[j]? = _
    by_cases e : v = j
    · subst e
      rw [List.getElem?_set, if_pos rfl, wipe_len]
    · rw [set_other e]
      refine wipe_in ?_
      rcases List.mem_cons.mp h with h | h
      · exact (e h.symm).elim
      · exact h
theorem wipe_eq {σ σ2 : L2.St} {vs sl : List Nat} (h : ∀ j, j ∉ sl → σ2[j]? = (wipe σ vs)[j]?) (hl : σ2.length = (wipe σ vs).length) (hs : ∀ j, j ∈ sl → j ∈ vs) : wipe σ2 vs = wipe σ vs := by
  rw [wipe_len] at hl
  apply List.ext_getElem?
  intro j
  by_cases hj : j ∈ vs
  · rw [wipe_in hj, wipe_in hj, hl]
  · rw [wipe_get hj, wipe_get hj, h j fun z => hj (hs j z), wipe_get hj]
theorem seal_get {μ : Bool} {ρ : Rho} {i : Nat} {x : LV} (h : (shutR μ ρ)[i]? = some (some x)) : (ρ[i]? = some (some x) ∧ ∀ ds, x ≠ .own ds) ∨ (μ = false ∧ ∃ ds, ρ[i]? = some (some (.own ds)) ∧ x = .dat (.list ds)) := by
  unfold shutR at h
  rw [List.getElem?_map] at h
  cases e : ρ[i]? with
  | none => rw [e] at h; cases h
  | some y =>
    rw [e] at h
    have h : sealL μ y = some x := by simpa using h
    match y, h with
    | some (.own ds), h =>
      unfold sealL at h
      cases μ with
      | true => cases h
      | false => cases h; exact .inr ⟨rfl, ds, rfl, rfl⟩
    | some (.dat d), h => cases h; exact .inl ⟨rfl, fun ds z => by cases z⟩
    | some (.raw d), h => cases h; exact .inl ⟨rfl, fun ds z => by cases z⟩
    | some .pool, h => cases h; exact .inl ⟨rfl, fun ds z => by cases z⟩
    | none, h => cases h
def Mi (μ : Bool) (M0 : Addr → Prop) (σ : L2.St) (ρ : Rho) (D : Addr) (p : Addr) : Prop := Mu μ M0 σ ρ p ∨ p = D
theorem Mi.noOwn {μ : Bool} {M1 : Addr → Prop} {σ' : L2.St} {ρ : Rho} {vs : List Nat} : ∀ a, Mu true M1 σ' (wipeR (shutR μ ρ) vs) a → M1 a := fun a m => by
  rcases m with m | ⟨_, i, ds, e, _⟩
  · exact m
  · exfalso
    have : ∀ (vs : List Nat) (i : Nat), (wipeR (shutR μ ρ) vs)[i]? = some (some (.own ds)) → False := by
      intro vs
      induction vs with
      | nil =>
        intro i e
        rcases seal_get (show (shutR μ ρ)[i]? = _ from e) with ⟨_, z⟩ | ⟨_, _, _, z⟩
        · exact z ds rfl
        · cases z
      | cons v vs ih =>
        intro i e
        rcases set_get (show ((wipeR (shutR μ ρ) vs).set v none)[i]? = _ from e) with ⟨_, z⟩ | ⟨_, z⟩
        · cases z
        · exact ih i z
    exact this vs i e
theorem Rs.inner {μ : Bool} {M0 : Addr → Prop} {H0 H H2 : Hp} {σ : L2.St} {ρ : Rho} {D : Addr} {acc : List V} (R : Rs M0 H0 H σ ρ) (hD : H D = none) (s : Same H H2) (eD : H2 D = some (.lst acc)) (vs : List Nat) : Rs (Mi μ M0 σ ρ D) H2 H2 (wipe σ vs) (wipeR (shutR μ ρ) vs) := by
  have base : Rs (Mi μ M0 σ ρ D) H2 H2 σ (shutR μ ρ) := by
    have no := Mi.noOwn (μ := μ) (M1 := Mi μ M0 σ ρ D) (σ' := σ) (ρ := ρ) (vs := [])
    refine ⟨Same.refl _, fun p m => ?_, ?_, fun i d e => ?_, fun i ds e => ?_, fun i v e => ?_, fun i j a b p e1 e2 e3 e4 => ?_⟩
    · rcases m with m | rfl
      · exact ((R.domu μ).mono s) p m
      · rw [eD]; intro z; cases z
    · unfold shutR; rw [List.length_map]; exact R.len
    · rcases seal_get e with ⟨e8, _⟩ | ⟨rfl, ds, e8, z9⟩
      · cases μ with
        | true =>
          obtain ⟨v, a, b⟩ := R.dat i d e8
          refine ⟨v, a, (b.reM fun a m => ?_).mono (.of s)⟩
          rcases no a m with m | rfl
          · exact .inl m
          · exact .inr hD
        | false =>
          obtain ⟨v, a, b⟩ := R.dat i d e8
          refine ⟨v, a, (b.reM fun a m => ?_).mono (.of s)⟩
          rcases no a m with m | rfl
          · exact Mu.up a m
          · exact .inr hD
      · cases z9
        obtain ⟨p, vs, a, b, c, l, r⟩ := R.own i ds e8
        refine ⟨.ref p, a, (Rp.lst b (fun m => ?_) l (r.reM fun a m => ?_)).mono (.of s)⟩
        · rcases no p m with m | rfl
          · rcases m with m | ⟨z, _⟩
            · exact R.dom p m c
            · cases z
          · rw [hD] at b; cases b
        · rcases no a m with m | rfl
          · exact Mu.up a m
          · exact .inr hD
    · rcases seal_get e with ⟨e, z⟩ | ⟨_, _, _, z⟩
      · exact (z ds rfl).elim
      · cases z
    · rcases seal_get e with ⟨e, z⟩ | ⟨_, _, _, z⟩
      · exact R.raw i v e
      · cases z
    · rcases seal_get e1 with ⟨e, z⟩ | ⟨_, _, _, z⟩
      · exact (z _ rfl).elim
      · cases z
  induction vs with
  | nil => exact base
  | cons v vs ih => exact ih.clear v none
def lcGo (p : Pat) (c : Rho → Option Bool) (f : EF) (ρ : Rho) : List D → Option (List D)
  | [] => some []
  | x :: xs => (bindP p x ρ).bind fun ρ1 => (c ρ1).bind fun b => if b = true then (f ρ1).bind fun d => (lcGo p c f ρ xs).map fun r => d :: r else lcGo p c f ρ xs
def eLc (μ : Bool) (vs : List Nat) (it : Rho → Option (List D)) (p : Pat) (c : Rho → Option Bool) (f : EF) : EF := fun ρ => (it ρ).bind fun items => (lcGo p c f (wipeR (shutR μ ρ) vs) items).map .list
theorem some_map {α β : Type} {o : Option α} {f : α → β} {b : β} (h : o.map f = some b) : ∃ a, o = some a ∧ f a = b := by
  cases o with
  | none => cases h
  | some a => cases h; exact ⟨a, rfl, rfl⟩
theorem drop_at {α : Type} {xs : List α} {i : Nat} {x : α} (h : xs[i]? = some x) : xs.drop i = x :: xs.drop (i + 1) := by
  obtain ⟨hl, e⟩ := List.getElem?_eq_some_iff.mp h
  rw [List.drop_eq_getElem_cons hl, e]
theorem lcCore {K : PySem.W.Frag} {μ μi pr : Bool} {M0 : Addr → Prop} {H0 H1 : Hp} {σ : L2.St} {ρ : Rho} {J : It} {items res : List D} {p : Pat} {c : Rho → Option Bool} {f : EF} {vs : List Nat} {D : Addr} {Qd : Hp → Prop}
    (R : Rs M0 H0 H1 σ ρ) (dw : ∀ M', (∀ a, M' a → Mu μ M0 σ ρ a ∨ H1 a = none) → DW pr M' H1 J items) (hD : H1 D = none) (hp : p.fits pr = true) (hs : ∀ j, j ∈ slP p → j ∈ vs) (e : lcGo p c f (wipeR (shutR μ ρ) vs) items = some res)
    (q : ∀ H acc, Same H1 H → H D = some (.lst acc) → acc.length ≤ sizeLine → RpAll (Mi μ M0 σ ρ D) H acc res → Qd H) :
    ∃ W : Nat → Nat → Hp → Prop, (∃ m, W 0 m (upd H1 D (.lst []))) ∧ ∀ i m H, W i m H →
      (J.stop i H ∧ Qd H) ∨ (J.go i H ∧ ∃ Nx : Hp → Prop, (∀ H', Nx H' → ∃ m', m' < m ∧ W (i + 1) m' H') ∧ ∀ x H', J.yld i H x H' → gP K p x (wipe σ vs) H' fun σ2 H2 => wipe σ2 vs = wipe σ vs ∧ tT c σ2 H2 fun b H3 =>
        if b = true then tD μi f σ2 H3 fun y H4 => ∃ acc, H4 D = some (.lst acc) ∧ acc.length < sizeLine ∧ Nx (upd H4 D (.lst (acc ++ [y]))) else Nx H3) := by
  have dw := dw (Mi μ M0 σ ρ D) fun a m => m.elim .inl fun z => .inr (by rw [z]; exact hD)
  have sz := dw.sz
  obtain ⟨G, Y, W, hG, hY⟩ := dw.ex
  refine lc_it W (fun i H => Same H1 H ∧ ∃ acc done rest, H D = some (.lst acc) ∧ acc.length ≤ i ∧ RpAll (Mi μ M0 σ ρ D) H acc done ∧ lcGo p c f (wipeR (shutR μ ρ) vs) (items.drop i) = some rest ∧ done ++ rest = res) ⟨smN hD, [], [], res, upd_same, Nat.le_refl _, .nil, e, rfl⟩ (fun i H hi h => hG H (.of h.1)) (fun i v H H' hi h y => ?_) (fun H h => ?_)
  · obtain ⟨sm, acc, done, rest, eD, la, ra, er, et⟩ := h
    obtain ⟨d, ed, s2, rv⟩ := hY i v H H' (.of sm) y
    rw [drop_at ed] at er
    unfold lcGo at er
    obtain ⟨ρ1, e1, er⟩ := some_bind er
    obtain ⟨b, eb, er⟩ := some_bind er
    have Rin := R.inner (μ := μ) hD (sm.trans s2) (s2 _ _ eD) vs
    refine bindP.ok (pr := pr) Rin ?_ hp e1 fun σ2 R2 B2 => ⟨wipe_eq B2.oth B2.len hs, _, _, ρ1, b, R2, eb, fun H3 s3 => ?_⟩
    · rcases rv with rv | ⟨zp, a, xs, ds, z1, z2, z3, z4⟩
      · exact .inl (rv.reM fun a m => .inl (Mi.noOwn a m))
      · exact .inr ⟨zp, a, xs, ds, z1, z2, z3, z4.reM fun a m => .inl (Mi.noOwn a m)⟩
    have s13 := (sm.trans s2).trans s3
    cases b with
    | true =>
      obtain ⟨dv, edv, er⟩ := some_bind (show (f ρ1).bind _ = some rest from er)
      obtain ⟨r2, er2, rfl⟩ := some_map er
      refine ⟨_, _, ρ1, dv, R2.mono s3, edv, fun y H4 s4 r4 => ?_⟩
      have s14 := s13.trans s4
      have eD4 := (s2.trans (s3.trans s4)) _ _ eD
      have kp : KpM (Mi μ M0 σ ρ D) H4 (upd H4 D (.lst (acc ++ [y]))) := fun q o n e => by
        rw [upd_ne (fun z => n (.inr z))]
        exact e
      have r4 : Rp (Mi μ M0 σ ρ D) H4 y dv := r4.reM fun a m => .inl (.inl m)
      refine ⟨acc, eD4, by omega, fun q o e => ?_, acc ++ [y], done ++ [dv], r2, upd_same, by rw [List.length_append]; simp; omega, ?_, er2, by rw [← et, List.append_assoc]; rfl⟩
      · rw [upd_ne (ne_of_none e hD)]
        exact s14 _ _ e
      · exact ((ra.mono (.of (s2.trans (s3.trans s4)))).mono kp).app (.cons (r4.mono kp) .nil)
    | false =>
      exact ⟨s13, acc, done, rest, (s2.trans s3) _ _ eD, by omega, ra.mono (.of (s2.trans s3)), er, et⟩
  · obtain ⟨sm, acc, done, rest, eD, la, ra, er, et⟩ := h
    rw [List.drop_length] at er
    cases er
    rw [List.append_nil] at et
    subst et
    exact q H acc sm eD (by omega) ra
section
variable {X : Cx} {K : PySem.W.Frag}
def oYes : Rho → Option Bool := fun _ => some true
theorem _root_.L2.PTs.wk {es : List Expr} {t t' : TT} (h : PTs X es t) (m : ∀ σ H Q, t' σ H Q → t σ H Q) : PTs X es t' := ⟨fun pn s σ H Q I q => h.run pn s σ H Q I (m _ _ _ q)⟩
theorem dTs_nil : PTs X [] (tT oYes) := pts_nil.wk fun σ H Q q => by
  obtain ⟨M0, H0, ρ, b, R, e, q⟩ := q
  cases e
  exact q _ (Same.refl _)
/-- a new list, whose address is nobody's -/
def tN (f : EF) : TE := fun σ H Q => ∃ M0 H0 ρ ds, Rs M0 H0 H σ ρ ∧ f ρ = some (.list ds) ∧ ∀ p vs H', H p = none → Same H H' → H' p = some (.lst vs) → vs.length ≤ sizeLine → RpAll (Mi true M0 σ ρ p) H' vs ds → Q (.ref p) H'
theorem dLc {it : Rho → Option (List D)} {p : Pat} {c : Rho → Option Bool} {f : EF} {vs : List Nat} {μ μi pr : Bool} (hp : p.fits pr = true) (hs : ∀ j, j ∈ slP p → j ∈ vs) {σ : L2.St} {H : Hp} {Q : VK} (q : tD μ (eLc μ vs it p c f) σ H Q) : tLc (iD μ pr it) (gP K p) (tT c) (tD μi f) vs σ H Q := by
  obtain ⟨M0, H0, ρ, d, R, e, q⟩ := q
  obtain ⟨items, ei, e⟩ := some_bind e
  obtain ⟨res, er, rfl⟩ := some_map e
  refine ⟨M0, H0, ρ, items, R, ei, fun J H1 s1 dw D hD => lcCore (R.mono s1) dw hD hp hs er fun H2 acc s2 eD la ra => q _ _ (s1.trans s2) (.lst eD (((R.mono s1).domu μ).not hD) la (ra.reM fun a m => .inl (.inl m)))⟩
theorem nLc {it : Rho → Option (List D)} {p : Pat} {c : Rho → Option Bool} {f : EF} {vs : List Nat} {μi pr : Bool} (hp : p.fits pr = true) (hs : ∀ j, j ∈ slP p → j ∈ vs) {σ : L2.St} {H : Hp} {Q : VK} (q : tN (eLc true vs it p c f) σ H Q) : tLc (iD true pr it) (gP K p) (tT c) (tD μi f) vs σ H Q := by
  obtain ⟨M0, H0, ρ, d, R, e, q⟩ := q
  obtain ⟨items, ei, e⟩ := some_bind e
  obtain ⟨res, er, e⟩ := some_map e
  cases e
  refine ⟨M0, H0, ρ, items, R, ei, fun J H1 s1 dw D hD => lcCore (R.mono s1) dw hD hp hs er fun H2 acc s2 eD la ra => q D acc H2 ?_ (s1.trans s2) eD la ra⟩
  cases z : H D with
  | none => rfl
  | some o => rw [s1 _ _ z] at hD; cases hD
/-! ### statements -/
def sAsg (p : Pat) (f : EF) : Rho → Option Out := fun ρ => (f ρ).bind fun d => (bindP p d ρ).map .nx
theorem dS_asg {st : Stmt} {p : Pat} {f : EF} (h : PS X st (tAsg (tD true f) (gP K p))) : PS X st (tS (sAsg p f)) := h.wk fun Dn σ H q => by
  obtain ⟨M0, H0, ρ, o, R, e, q⟩ := q
  obtain ⟨d, ed, e⟩ := some_bind e
  obtain ⟨ρ1, e1, rfl⟩ := some_map e
  exact ⟨M0, H0, ρ, d, R, ed, fun v H1 s1 r1 => bindP.ok (pr := false) (R.mono s1) (.inl r1) (by cases p <;> rfl) e1 fun σ1 R1 B1 => q σ1 H1 R1 ⟨.of s1, fun p m => .inl (B1.mu p m)⟩⟩
def sRet (f : EF) : Rho → Option Out := fun ρ => (f ρ).map .rt
theorem dS_ret {st : Stmt} {f : EF} {μ : Bool} (h : PS X st (tRet (tD μ f))) : PS X st (tS (sRet f)) := h.wk fun Dn σ H q => by
  obtain ⟨M0, H0, ρ, o, R, e, q⟩ := q
  obtain ⟨d, ed, rfl⟩ := some_map e
  exact ⟨M0, H0, ρ, d, R, ed, fun v H1 s1 r1 => q v H1 (R.sm.trans s1) (r1.reM Mu.lo)⟩
def sRetN : Rho → Option Out := fun _ => some (.rt .none)
theorem dS_retN {pos : Pos} : PS X (.Return none pos) (tS sRetN) := ps_retN.wk fun Dn σ H q => by
  obtain ⟨M0, H0, ρ, o, R, e, q⟩ := q
  cases e
  exact q _ H R.sm .non
def sDrop (f : EF) : Rho → Option Out := fun ρ => (f ρ).map fun _ => .nx ρ
theorem dS_expr {st : Stmt} {f : EF} {μ : Bool} (h : PS X st (tDrop (tD μ f))) : PS X st (tS (sDrop f)) := h.wk fun Dn σ H q => by
  obtain ⟨M0, H0, ρ, o, R, e, q⟩ := q
  obtain ⟨d, ed, rfl⟩ := some_map e
  exact ⟨M0, H0, ρ, d, R, ed, fun v H1 s1 r1 => q σ H1 (R.mono s1) ⟨.of s1, fun p m => .inl m⟩⟩
def sIf (c : Rho → Option Bool) (f g : Rho → Option Out) : Rho → Option Out := fun ρ => (c ρ).bind fun b => if b = true then f ρ else g ρ
/-- from a later heap, where what stood stands -/
def Post (M0 : Addr → Prop) (H0 : Hp) (σ : L2.St) (ρ : Rho) (H : Hp) (Dn : Ends) : Out → Prop
  | .nx ρ' => ∀ σ' H', Rs M0 H0 H' σ' ρ' → Stp M0 σ ρ H σ' ρ' H' → Dn.nx σ' H'
  | .rt d => ∀ v H', Same H0 H' → Rp M0 H' v d → Dn.rt v H'
  | .bk ρ' => ∀ σ' H', Rs M0 H0 H' σ' ρ' → Stp M0 σ ρ H σ' ρ' H' → Dn.bk σ' H'
  | .ct ρ' => ∀ σ' H', Rs M0 H0 H' σ' ρ' → Stp M0 σ ρ H σ' ρ' H' → Dn.ct σ' H'
theorem tS_iff {f : Rho → Option Out} {Dn : Ends} {σ : L2.St} {H : Hp} : tS f Dn σ H ↔ ∃ M0 H0 ρ o, Rs M0 H0 H σ ρ ∧ f ρ = some o ∧ Post M0 H0 σ ρ H Dn o := by
  constructor
  · rintro ⟨M0, H0, ρ, o, R, e, q⟩
    exact ⟨M0, H0, ρ, o, R, e, by cases o <;> exact q⟩
  · rintro ⟨M0, H0, ρ, o, R, e, q⟩
    exact ⟨M0, H0, ρ, o, R, e, by cases o <;> exact q⟩
theorem Post.from {M0 : Addr → Prop} {H0 : Hp} {σ σ1 : L2.St} {ρ ρ1 : Rho} {H H1 : Hp} {Dn : Ends} {o : Out} (st : Stp M0 σ ρ H σ1 ρ1 H1) (p : Post M0 H0 σ ρ H Dn o) : Post M0 H0 σ1 ρ1 H1 Dn o := by
  cases o with
  | nx ρ' => exact fun σ' H' R s => p σ' H' R (st.trans s)
  | rt d => exact p
  | bk ρ' => exact fun σ' H' R s => p σ' H' R (st.trans s)
  | ct ρ' => exact fun σ' H' R s => p σ' H' R (st.trans s)
theorem Stp.of {M0 : Addr → Prop} {σ : L2.St} {ρ : Rho} {H H' : Hp} (s : Same H H') : Stp M0 σ ρ H σ ρ H' := ⟨.of s, fun p m => .inl m⟩
theorem dS_if {c : Expr} {a b : List Stmt} {pos : Pos} {t : Rho → Option Bool} {f g : Rho → Option Out} (hc : PT X c (tT t)) (ha : PSs X a (tS f)) (hb : PSs X b (tS g)) : PS X (.If c a b pos) (tS (sIf t f g)) := (ps_if hc ha hb).wk fun Dn σ H q => by
  obtain ⟨M0, H0, ρ, o, R, e, q⟩ := tS_iff.mp q
  obtain ⟨c, ec, e⟩ := some_bind e
  refine ⟨M0, H0, ρ, c, R, ec, fun H1 s1 => ?_⟩
  cases c with
  | true => exact tS_iff.mpr ⟨M0, H0, ρ, o, R.mono s1, e, q.from (.of s1)⟩
  | false => exact tS_iff.mpr ⟨M0, H0, ρ, o, R.mono s1, e, q.from (.of s1)⟩
def sSeq (f g : Rho → Option Out) : Rho → Option Out := fun ρ => (f ρ).bind fun o => match o with
  | .nx ρ' => g ρ'
  | o => some o
theorem dSs_cons {st : Stmt} {rest : List Stmt} {f g : Rho → Option Out} (h : PS X st (tS f)) (hs : PSs X rest (tS g)) : PSs X (st :: rest) (tS (sSeq f g)) := (pss_cons h hs).wk fun Dn σ H q => by
  obtain ⟨M0, H0, ρ, o, R, e, q⟩ := tS_iff.mp q
  obtain ⟨o1, e1, e⟩ := some_bind e
  refine tS_iff.mpr ⟨M0, H0, ρ, o1, R, e1, ?_⟩
  cases o1 with
  | nx ρ' => exact fun σ' H' R' s => tS_iff.mpr ⟨M0, H0, ρ', o, R', e, q.from s⟩
  | rt d => cases e; exact q
  | bk ρ' => cases e; exact q
  | ct ρ' => cases e; exact q
theorem dSs_one {st : Stmt} {f : Rho → Option Out} (h : PS X st (tS f)) : PSs X [st] (tS f) := pss_one h
def sNil : Rho → Option Out := fun ρ => some (.nx ρ)
theorem dSs_nil : PSs X [] (tS sNil) := pss_nil.wk fun Dn σ H q => by
  obtain ⟨M0, H0, ρ, o, R, e, q⟩ := tS_iff.mp q
  cases e
  exact q σ H R .refl
theorem dS_pass {pos : Pos} : PS X (.Pass pos) (tS sNil) := ps_pass.wk fun Dn σ H q => by
  obtain ⟨M0, H0, ρ, o, R, e, q⟩ := tS_iff.mp q
  cases e
  exact q σ H R .refl
def forGo (p : Pat) (body : Rho → Option Out) : List D → Rho → Option Out
  | [], ρ => some (.nx ρ)
  | x :: xs, ρ => (bindP p x ρ).bind fun ρ1 => (body ρ1).bind fun o => match o with
    | .nx ρ2 => forGo p body xs ρ2
    | .ct ρ2 => forGo p body xs ρ2
    | .bk ρ2 => some (.nx ρ2)
    | .rt d => some (.rt d)
def sFor (it : Rho → Option (List D)) (p : Pat) (body : Rho → Option Out) : Rho → Option Out := fun ρ => (it ρ).bind fun items => forGo p body items ρ
theorem dFor {it : Rho → Option (List D)} {p : Pat} {body : Rho → Option Out} {pr : Bool} (hp : p.fits pr = true) {Dn : Ends} {σ : L2.St} {H : Hp} (q : tS (sFor it p body) Dn σ H) : tFor (iD true pr it) (gP K p) (tS body) Dn σ H := by
  obtain ⟨M0, H0, ρ, o, R, e, q⟩ := tS_iff.mp q
  obtain ⟨items, ei, e⟩ := some_bind e
  refine ⟨M0, H0, ρ, items, R, ei, fun J H1 s1 dw => ⟨fun i m σ' H' => i ≤ items.length ∧ m = items.length - i ∧ ∃ ρ', Rs M0 H0 H' σ' ρ' ∧ Stp M0 σ ρ H1 σ' ρ' H' ∧ forGo p body (items.drop i) ρ' = some o, ⟨_, Nat.zero_le _, rfl, ρ, R.mono s1, .refl, e⟩, ?_⟩⟩
  rintro i m σ' H' ⟨hi, rfl, ρ', R', st, e⟩
  have dw := dw (fun a => Mu true M0 σ' ρ' a ∨ Mu true M0 σ ρ a) fun a m => m.elim (st.ow a) .inl
  obtain ⟨G, Y, W, hG, hY⟩ := dw.ex
  have kp : KpM (fun a => Mu true M0 σ' ρ' a ∨ Mu true M0 σ ρ a) H1 H' := fun p o n e => st.kp p o (fun m => n (.inr m)) e
  by_cases hlt : i < items.length
  · refine .inr ⟨W.goes i H' hlt (hG _ kp), fun σ3 H3 => ∃ ρ3, Rs M0 H0 H3 σ3 ρ3 ∧ Stp M0 σ ρ H1 σ3 ρ3 H3 ∧ forGo p body (items.drop (i + 1)) ρ3 = some o, fun σ3 H3 h => ⟨items.length - (i + 1), by omega, hlt, rfl, h⟩, fun x Hb y => ?_⟩
    obtain ⟨d, ed, s2, rv⟩ := hY i x H' Hb kp (W.yields i H' x Hb hlt (hG _ kp) y)
    rw [drop_at ed] at e
    unfold forGo at e
    obtain ⟨ρ1, e1, e⟩ := some_bind e
    obtain ⟨o1, eo, e⟩ := some_bind e
    refine bindP.ok (pr := pr) (R'.mono s2) ?_ hp e1 fun σ2 R2 B2 => tS_iff.mpr ⟨M0, H0, ρ1, o1, R2, eo, ?_⟩
    · rcases rv with rv | ⟨zp, a, xs, ds, z1, z2, z3, z4⟩
      · exact .inl (rv.reM fun a m => .inl (.inl m))
      · exact .inr ⟨zp, a, xs, ds, z1, z2, z3, z4.reM fun a m => .inl (.inl m)⟩
    have st2 : Stp M0 σ' ρ' H' σ2 ρ1 Hb := ⟨.of s2, fun p m => .inl (B2.mu p m)⟩
    cases o1 with
    | nx ρ2 => exact fun σ3 H3 R3 s3 => ⟨ρ2, R3, (st.trans st2).trans s3, e⟩
    | ct ρ2 => exact fun σ3 H3 R3 s3 => ⟨ρ2, R3, (st.trans st2).trans s3, e⟩
    | bk ρ2 => cases e; exact fun σ3 H3 R3 s3 => q σ3 H3 R3 ((Stp.of s1).trans ((st.trans st2).trans s3))
    | rt d => cases e; exact q
  · have : i = items.length := by omega
    subst this
    rw [List.drop_length] at e
    cases e
    exact .inl ⟨W.stops H' (hG _ kp), q σ' H' R' ((Stp.of s1).trans st)⟩
theorem dS_for {st : Stmt} {it : Rho → Option (List D)} {p : Pat} {body : Rho → Option Out} {pr : Bool} (h : PS X st (tFor (iD true pr it) (gP K p) (tS body))) (hp : p.fits pr = true := by rfl) : PS X st (tS (sFor it p body)) := h.wk fun Dn σ H q => dFor hp q
/-! lists of one's own -/
theorem Rs.ownSet {M0 : Addr → Prop} {H0 H : Hp} {σ : L2.St} {ρ : Rho} {i : Nat} {ds ds' : List D} {p : Addr} {vs vs' : List V} (R : Rs M0 H0 H σ ρ) (e : ρ[i]? = some (some (.own ds))) (es : σ[i]? = some (some (.ref p))) (eH : H p = some (.lst vs)) (l : vs'.length ≤ sizeLine) (r : RpAll (Mu true M0 σ ρ) H vs' ds') :
    Rs M0 H0 (upd H p (.lst vs')) σ (ρ.set i (some (.own ds'))) ∧ Stp M0 σ ρ H σ (ρ.set i (some (.own ds'))) (upd H p (.lst vs')) := by
  have hi : i < ρ.length := (List.getElem?_eq_some_iff.mp e).1
  have mp : Mu true M0 σ ρ p := .inr ⟨rfl, i, ds, e, es⟩
  have mu : ∀ a, Mu true M0 σ (ρ.set i (some (.own ds'))) a → Mu true M0 σ ρ a := fun a m => by
    rcases m with m | ⟨_, j, es', e1, e2⟩
    · exact .inl m
    · rcases set_get e1 with ⟨rfl, _⟩ | ⟨n, e1⟩
      · exact .inr ⟨rfl, i, ds, e, e2⟩
      · exact .inr ⟨rfl, j, es', e1, e2⟩
  have kp : KpM (Mu true M0 σ ρ) H (upd H p (.lst vs')) := fun a o n e => by
    rw [upd_ne (fun z => n (by rw [z]; exact mp))]
    exact e
  have h0 : H0 p = none := by
    obtain ⟨q, us, a, b, c, _⟩ := R.own i ds e
    rw [es] at a
    cases a
    exact c
  refine ⟨⟨fun a o e => ?_, R.dom, by rw [List.length_set]; exact R.len, fun j d e1 => ?_, fun j es' e1 => ?_, fun j v e1 => ?_, fun j k a b q e1 e2 e3 e4 => ?_⟩, kp, fun a m => .inl (mu a m)⟩
  · rw [upd_ne (fun z => by rw [z, h0] at e; cases e)]
    exact R.sm a o e
  · rcases set_get e1 with ⟨_, z⟩ | ⟨n, e1⟩
    · cases z
    · obtain ⟨v, a, b⟩ := R.dat j d e1
      exact ⟨v, a, (b.mono kp).reM fun a m => .inl (mu a m)⟩
  · rcases set_get e1 with ⟨rfl, z⟩ | ⟨n, e1⟩
    · cases z
      exact ⟨p, vs', es, upd_same, h0, l, (r.mono kp).reM fun a m => .inl (mu a m)⟩
    · obtain ⟨q, us, a, b, c, l', r'⟩ := R.own j es' e1
      refine ⟨q, us, a, ?_, c, l', (r'.mono kp).reM fun a m => .inl (mu a m)⟩
      rw [upd_ne (fun z => n (R.inj i j ds es' p e e1 es (by rw [← z]; exact a)))]
      exact b
  · rcases set_get e1 with ⟨_, z⟩ | ⟨n, e1⟩
    · cases z
    · exact R.raw j v e1
  · have f1 : ∃ a', ρ[j]? = some (some (.own a')) := by
      rcases set_get e1 with ⟨rfl, _⟩ | ⟨_, z⟩
      · exact ⟨ds, e⟩
      · exact ⟨a, z⟩
    have f2 : ∃ a', ρ[k]? = some (some (.own a')) := by
      rcases set_get e2 with ⟨rfl, _⟩ | ⟨_, z⟩
      · exact ⟨ds, e⟩
      · exact ⟨b, z⟩
    obtain ⟨a', f1⟩ := f1
    obtain ⟨b', f2⟩ := f2
    exact R.inj j k a' b' q f1 f2 e3 e4
theorem Rs.ownNew {M0 : Addr → Prop} {H0 H H' : Hp} {σ : L2.St} {ρ : Rho} {i : Nat} {ds : List D} {p : Addr} {vs : List V} (R : Rs M0 H0 H σ ρ) (hi : i < ρ.length) (np : H p = none) (s : Same H H') (eH : H' p = some (.lst vs)) (l : vs.length ≤ sizeLine) (r : RpAll (Mi true M0 σ ρ p) H' vs ds) :
    Rs M0 H0 H' (σ.set i (some (.ref p))) (ρ.set i (some (.own ds))) ∧ Stp M0 σ ρ H (σ.set i (some (.ref p))) (ρ.set i (some (.own ds))) H' := by
  have mu : ∀ a, Mu true M0 (σ.set i (some (.ref p))) (ρ.set i (some (.own ds))) a → Mi true M0 σ ρ p a := fun a m => by
    rcases m with m | ⟨_, j, es', e1, e2⟩
    · exact .inl (.inl m)
    · rcases set_get e1 with ⟨rfl, _⟩ | ⟨n, e1⟩
      · rw [set_same (by rw [← R.len]; exact hi)] at e2
        cases e2
        exact .inr rfl
      · rw [set_other n] at e2
        exact .inl (.inr ⟨rfl, j, es', e1, e2⟩)
  have h0 : H0 p = none := by
    cases z : H0 p with
    | none => rfl
    | some o => rw [R.sm _ _ z] at np; cases np
  have re : ∀ a, Mu true M0 (σ.set i (some (.ref p))) (ρ.set i (some (.own ds))) a → Mu true M0 σ ρ a ∨ H a = none := fun a m => by
    rcases mu a m with m | rfl
    · exact .inl m
    · exact .inr np
  refine ⟨⟨R.sm.trans s, R.dom, by rw [List.length_set, List.length_set]; exact R.len, fun j d e1 => ?_, fun j es' e1 => ?_, fun j v e1 => ?_, fun j k a b q e1 e2 e3 e4 => ?_⟩, .of s, re⟩
  · rcases set_get e1 with ⟨_, z⟩ | ⟨n, e1⟩
    · cases z
    · obtain ⟨v, a, b⟩ := R.dat j d e1
      exact ⟨v, by rw [set_other n]; exact a, (b.reM re).mono (.of s)⟩
  · rcases set_get e1 with ⟨rfl, z⟩ | ⟨n, e1⟩
    · cases z
      exact ⟨p, vs, set_same (by rw [← R.len]; exact hi), eH, h0, l, r.reM fun a m => .inl (mu a m)⟩
    · obtain ⟨q, us, a, b, c, l', r'⟩ := R.own j es' e1
      exact ⟨q, us, by rw [set_other n]; exact a, s _ _ b, c, l', (r'.reM re).mono (.of s)⟩
  · rcases set_get e1 with ⟨_, z⟩ | ⟨n, e1⟩
    · cases z
    · rw [set_other n]; exact R.raw j v e1
  · have own : ∀ (m : Nat) (es : List D), ρ[m]? = some (some (.own es)) → σ[m]? = some (some (.ref q)) → q ≠ p := fun m es f1 f2 z => by
      obtain ⟨q', us, a, b, _⟩ := R.own m es f1
      rw [f2] at a
      cases a
      rw [z, np] at b
      cases b
    rcases set_get e1 with ⟨rfl, _⟩ | ⟨n1, f1⟩
    · rcases set_get e2 with ⟨rfl, _⟩ | ⟨n2, f2⟩
      · rfl
      · rw [set_same (by rw [← R.len]; exact hi)] at e3
        cases e3
        rw [set_other n2] at e4
        exact (own k b f2 e4 rfl).elim
    · rw [set_other n1] at e3
      rcases set_get e2 with ⟨rfl, _⟩ | ⟨n2, f2⟩
      · rw [set_same (by rw [← R.len]; exact hi)] at e4
        cases e4
        exact (own j a f1 e3 rfl).elim
      · rw [set_other n2] at e4
        exact R.inj j k a b q f1 f2 e3 e4
def sOwn (i : Nat) (f : EF) : Rho → Option Out := fun ρ => (f ρ).bind fun d => match d with
  | .list ds => if i < ρ.length then some (.nx (ρ.set i (some (.own ds)))) else none
  | _ => none
theorem dS_own {st : Stmt} {i : Nat} {f : EF} (h : PS X st (tAsg (tN f) (gName i))) : PS X st (tS (sOwn i f)) := h.wk fun Dn σ H q => by
  obtain ⟨M0, H0, ρ, o, R, e, q⟩ := tS_iff.mp q
  obtain ⟨d, ed, e⟩ := some_bind e
  cases d <;> try (cases e; done)
  obtain ⟨hi, rfl⟩ := iteS e
  refine ⟨M0, H0, ρ, _, R, ed, fun p vs H1 np s1 eH l r => ?_⟩
  obtain ⟨R1, s1⟩ := R.ownNew hi np s1 eH l r
  exact q _ _ R1 s1
theorem oE_lst {es : List Expr} {pos : Pos} {g : Rho → Option (List D)} (h : PA X es (tA true g)) : PE X (.List es pos) (tN (eLst g)) := (pe_lst h).wk fun σ H Q q => by
  obtain ⟨M0, H0, ρ, d, R, e, q⟩ := q
  obtain ⟨ds, ed, e⟩ := some_bind e
  obtain ⟨l, z⟩ := iteS e
  cases z
  refine ⟨M0, H0, ρ, _, R, ed, fun vs H1 s1 r1 => ⟨by rw [r1.len]; exact l, fun p np => q p vs _ ?_ (s1.trans (smN np)) upd_same (by rw [r1.len]; exact l) ((r1.reM fun a m => ?_).mono (.of (smN np)))⟩⟩
  · cases z : H p with
    | none => rfl
    | some o => rw [s1 _ _ z] at np; cases np
  · rcases m with m | rfl
    · exact .inl m
    · exact .inr np
def sApp (i : Nat) (f : Rho → Option (List D)) : Rho → Option Out := fun ρ => match ρ[i]? with
  | some (some (.own ds)) => (f ρ).bind fun es => match es with
    | [d] => if ds.length < sizeLine then some (.nx (ρ.set i (some (.own (ds ++ [d]))))) else none
    | _ => none
  | _ => none
theorem dS_app {st : Stmt} {i : Nat} {f : Rho → Option (List D)} (h : PS X st (tDrop (tBM K "list" rAppend (tVar i) (tA true f)))) : PS X st (tS (sApp i f)) := h.wk fun Dn σ H q => by
  obtain ⟨M0, H0, ρ, o, R, e, q⟩ := tS_iff.mp q
  unfold sApp at e
  split at e
  · rename_i ds z
    obtain ⟨es, ed, e⟩ := some_bind e
    obtain ⟨p, vs, a, b, c, l, r⟩ := R.own i ds z
    refine ⟨.ref p, a, .inl ⟨rfl, _, SqL.of b⟩, M0, H0, ρ, es, R, ed, fun us H1 s1 r1 => ?_⟩
    match es, r1, e with
    | [d], .cons r1 .nil, e =>
      obtain ⟨l2, rfl⟩ := iteS e
      have hl : vs.length < sizeLine := by rw [r.len]; exact l2
      refine ⟨p, vs, _, rfl, rfl, s1 _ _ b, hl, ?_⟩
      obtain ⟨R1, S1⟩ := (R.mono s1).ownSet z a (s1 _ _ b) (vs' := vs ++ [_]) (by rw [List.length_append]; exact hl) ((r.mono (.of s1)).app (.cons r1 .nil))
      exact q _ _ R1 ((Stp.of s1).trans S1)
  · cases e
end
/-! ### a def -/
def startR (n : Nat) (ds : List D) : Rho := ds.map (fun d => some (.dat d)) ++ List.replicate (n - ds.length) none
theorem RpAll.start {M : Addr → Prop} {H : Hp} {N : List Str} {vs : List V} {ds : List D} (dm : Dom M H) (r : RpAll M H vs ds) : Rs M H H (L2.start N vs) (startR N.length ds) := by
  have get : ∀ (i : Nat) (x : LV), (startR N.length ds)[i]? = some (some x) → ∃ d, ds[i]? = some d ∧ x = .dat d := fun i x e => by
    unfold startR at e
    rw [List.getElem?_append] at e
    split at e
    · rw [List.getElem?_map] at e
      cases z : ds[i]? with
      | none => rw [z] at e; cases e
      | some d => rw [z] at e; cases e; exact ⟨d, rfl, rfl⟩
    · rw [List.getElem?_replicate] at e
      split at e <;> cases e
  have mu : ∀ a, Mu true M (L2.start N vs) (startR N.length ds) a → M a ∨ H a = none := fun a m => by
    rcases m with m | ⟨_, j, es, e, _⟩
    · exact .inl m
    · obtain ⟨d, _, z⟩ := get j _ e
      cases z
  refine ⟨Same.refl _, dm, ?_, fun i d e => ?_, fun i es e => ?_, fun i v e => ?_, fun i j a b p e => ?_⟩
  · unfold startR L2.start
    simp [r.len]
  · obtain ⟨d', ed, z⟩ := get i _ e
    cases z
    obtain ⟨v, a, b⟩ := r.get ed
    refine ⟨v, ?_, b.reM mu⟩
    unfold L2.start
    rw [List.getElem?_append, if_pos (by rw [List.length_map]; exact (List.getElem?_eq_some_iff.mp a).1), List.getElem?_map, a]
    rfl
  · obtain ⟨d', _, z⟩ := get i _ e
    cases z
  · obtain ⟨d', _, z⟩ := get i _ e
    cases z
  · obtain ⟨d', _, z⟩ := get i _ e
    cases z
def Tells (o : Out) (d : D) : Prop := match o with
  | .rt e => e = d
  | .nx _ => d = .none
  | _ => False
theorem okFn {P : Program} {w : World} {K : PySem.W.Frag} {mg : Str → Option Value} {base : Heap} {x qual : Str} {st : Stmt} {f : Addr} {fd : FuncData} {N ps : List Str} {k n : Nat} {g : List D → Option D} (F : Fun K x qual st f fd) (S : FnScope N ps (defScope st)) (hn : n = ps.length)
    (walk : ∀ (cdv : Value) (A : Around) (outer : List Env) (s : Shared) (H : Hp) (E : XK), Room k (A.deeper (envOfC qual (defScope st) s.heap.objs.size f cdv)) →
      ∃ fS, PSs (cxOf CX0 P w K mg base N qual (defScope st) f cdv A outer s H E).nox (defBody st) (tS fS) ∧ ∀ ds d, ds.length = n → g ds = some d → ∃ o, fS (startR N.length ds) = some o ∧ Tells o d) :
    FnOk P w K mg base CX0 (k + 1) f fd ps (spD n g) := by
  refine F.ok S (fun vs H Q E h => ?_) (fun cdv A outer s H vs Q E hr h => ?_)
  · obtain ⟨M, ds, d, dm, r, l, _⟩ := h
    rw [r.len, l, hn]
  · obtain ⟨M, ds, d, dm, r, l, e, q⟩ := h
    obtain ⟨fS, hS, hw⟩ := walk cdv A outer s H E hr
    obtain ⟨o, eo, t⟩ := hw ds d l e
    refine ⟨_, hS, tS_iff.mpr ⟨M, H, _, o, r.start dm, eo, ?_⟩⟩
    cases o with
    | nx ρ' => cases t; exact fun σ' H' R s => q _ _ R.sm .non
    | rt d' => cases t; exact fun v H' s r => q v H' s r
    | bk ρ' => exact t.elim
    | ct ρ' => exact t.elim
end Dl
namespace Dl
open PySem PySem.Spec PyProof.Rows L2 Rt
def lenD : List D → Option D
  | [.tuple ds] => some (.int ds.length)
  | [.list ds] => some (.int ds.length)
  | [.str z] => some (.int z.length)
  | _ => none
def boolsD : List D → Option (List Bool)
  | [] => some []
  | .bool b :: ds => (boolsD ds).map (b :: ·)
  | _ :: _ => none
def intsD : List D → Option (List Int)
  | [] => some []
  | .int b :: ds => (intsD ds).map (b :: ·)
  | _ :: _ => none
theorem RpAll.bools {M : Addr → Prop} {H : Hp} : ∀ {vs : List V} {ds : List D} {bs : List Bool}, RpAll M H vs ds → boolsD ds = some bs → vs = bs.map V.bl
  | _, _, _, .nil, e => by cases e; rfl
  | _, _, _, .cons (d := .bool b) h t, e => by
    obtain ⟨r, er, rfl⟩ := some_map e
    cases h
    rw [t.bools er]
    rfl
  | _, _, _, .cons (d := .none) h t, e => nomatch e
  | _, _, _, .cons (d := .int _) h t, e => nomatch e
  | _, _, _, .cons (d := .str _) h t, e => nomatch e
  | _, _, _, .cons (d := .list _) h t, e => nomatch e
  | _, _, _, .cons (d := .tuple _) h t, e => nomatch e
  | _, _, _, .cons (d := .dict _) h t, e => nomatch e
theorem RpAll.ints {M : Addr → Prop} {H : Hp} : ∀ {vs : List V} {ds : List D} {bs : List Int}, RpAll M H vs ds → intsD ds = some bs → vs = bs.map V.int
  | _, _, _, .nil, e => by cases e; rfl
  | _, _, _, .cons (d := .int b) h t, e => by
    obtain ⟨r, er, rfl⟩ := some_map e
    cases h
    rw [t.ints er]
    rfl
  | _, _, _, .cons (d := .none) h t, e => nomatch e
  | _, _, _, .cons (d := .bool _) h t, e => nomatch e
  | _, _, _, .cons (d := .str _) h t, e => nomatch e
  | _, _, _, .cons (d := .list _) h t, e => nomatch e
  | _, _, _, .cons (d := .tuple _) h t, e => nomatch e
  | _, _, _, .cons (d := .dict _) h t, e => nomatch e
def allD : List D → Option D
  | [.list ds] => (boolsD ds).map fun bs => .bool (bs.all id)
  | _ => none
def anyD : List D → Option D
  | [.list ds] => (boolsD ds).map fun bs => .bool (bs.any id)
  | _ => none
def tupD : List D → Option D
  | [.list ds] => some (.tuple ds)
  | [.tuple ds] => some (.tuple ds)
  | _ => none
def lisD : List D → Option D
  | [.list ds] => some (.list ds)
  | [.tuple ds] => some (.list ds)
  | _ => none
def intD : List D → Option D
  | [.int i] => some (.int i)
  | [.bool b] => some (.int (if b = true then 1 else 0))
  | _ => none
def min2D : List D → Option D
  | [.int i, .int j] => some (.int (if j < i then j else i))
  | _ => none
def max2D : List D → Option D
  | [.int i, .int j] => some (.int (if j > i then j else i))
  | _ => none
def minL : List Int → Option Int
  | [] => none
  | x :: xs => some (xs.foldl min x)
def maxL : List Int → Option Int
  | [] => none
  | x :: xs => some (xs.foldl max x)
def absD : List D → Option D
  | [.int i] => some (.int (if i < 0 then -i else i))
  | _ => none
def sumD : List D → Option D
  | [.list ds] => (intsD ds).map fun ns => .int ns.sum
  | _ => none
section
variable {X : Cx}
theorem c_len : CallR X (.builtin "len") (rC lenD) := by
  intro pn s σ H xs us Q I r h
  obtain ⟨M, ds, d, dm, ra, e, q⟩ := h
  match ds, ra, e with
  | [.tuple ds], .cons (@Rp.tup _ _ a xs1 _ t n l r) .nil, e =>
    cases e
    exact call_len pn s σ H _ us Q I ‹_› ⟨.ref a, xs1.length, rfl, .inr ⟨_, t.sq, rfl⟩, by rw [r.len]; exact q _ _ (Same.refl _) (.int _)⟩
  | [.list ds], .cons (@Rp.lst _ _ a xs1 _ t n l r) .nil, e =>
    cases e
    exact call_len pn s σ H _ us Q I ‹_› ⟨.ref a, xs1.length, rfl, .inl ⟨_, SqL.of t, rfl⟩, by rw [r.len]; exact q _ _ (Same.refl _) (.int _)⟩
  | [.str z], .cons (.str _ l) .nil, e =>
    cases e
    exact call_len pn s σ H _ us Q I ‹_› ⟨.str z, z.length, rfl, ⟨l, rfl⟩, q _ _ (Same.refl _) (.int _)⟩
theorem c_all (hc : X.calm = true) : CallR X (.builtin "all") (rC allD) := by
  intro pn s σ H xs us Q I r h
  obtain ⟨M, ds, d, dm, ra, e, q⟩ := h
  match ds, ra, e with
  | [.list ds], .cons (.lst t n l r) .nil, e =>
    obtain ⟨bs, eb, rfl⟩ := some_map e
    exact cr_all hc pn s σ H _ us Q I ‹_› ⟨_, bs, rfl, by rw [← r.bools eb]; exact SqL.of t, q _ _ (Same.refl _) (.bl _)⟩
theorem c_any (hc : X.calm = true) : CallR X (.builtin "any") (rC anyD) := by
  intro pn s σ H xs us Q I r h
  obtain ⟨M, ds, d, dm, ra, e, q⟩ := h
  match ds, ra, e with
  | [.list ds], .cons (.lst t n l r) .nil, e =>
    obtain ⟨bs, eb, rfl⟩ := some_map e
    exact cr_any hc pn s σ H _ us Q I ‹_› ⟨_, bs, rfl, by rw [← r.bools eb]; exact SqL.of t, q _ _ (Same.refl _) (.bl _)⟩
theorem c_sum (hc : X.calm = true) : CallR X (.builtin "sum") (rC sumD) := by
  intro pn s σ H xs us Q I r h
  obtain ⟨M, ds, d, dm, ra, e, q⟩ := h
  match ds, ra, e with
  | [.list ds], .cons (.lst t n l r) .nil, e =>
    obtain ⟨bs, eb, rfl⟩ := some_map e
    exact cr_sum hc pn s σ H _ us Q I ‹_› ⟨_, bs, rfl, by rw [← r.ints eb]; exact SqL.of t, q _ _ (Same.refl _) (.int _)⟩
theorem c_tuple : CallR X (.type "tuple") (rC tupD) := by
  intro pn s σ H xs us Q I r h
  obtain ⟨M, ds, d, dm, ra, e, q⟩ := h
  match ds, ra, e with
  | [.list ds], .cons (.lst t n l r) .nil, e =>
    cases e
    exact call_tupF pn s σ H _ us Q I ‹_› ⟨_, _, rfl, SqL.of t, fun p o H' np od eH => by
      subst eH
      exact q _ _ (smN np) (.tup ⟨o, upd_same, od⟩ (dm.not np) l (r.mono (.of (smN np))))⟩
  | [.tuple ds], .cons (.tup t n l r) .nil, e =>
    cases e
    exact call_tuple_of pn s σ H _ us Q I ‹_› ⟨_, _, rfl, .inr ⟨t.sq, q _ _ (Same.refl _) (.tup t n l r)⟩⟩
theorem c_list : CallR X (.type "list") (rC lisD) := by
  intro pn s σ H xs us Q I r h
  obtain ⟨M, ds, d, dm, ra, e, q⟩ := h
  match ds, ra, e with
  | [.list ds], .cons (.lst t n l r) .nil, e =>
    cases e
    exact call_list_of pn s σ H _ us Q I ‹_› ⟨_, _, rfl, .inl (SqL.of t), fun p np => q _ _ (smN np) (.lst upd_same (dm.not np) l (r.mono (.of (smN np))))⟩
  | [.tuple ds], .cons (.tup t n l r) .nil, e =>
    cases e
    exact call_list_of pn s σ H _ us Q I ‹_› ⟨_, _, rfl, .inr t.sq, fun p np => q _ _ (smN np) (.lst upd_same (dm.not np) l (r.mono (.of (smN np))))⟩
theorem c_int : CallR X (.type "int") (rC intD) := by
  intro pn s σ H xs us Q I r h
  obtain ⟨M, ds, d, dm, ra, e, q⟩ := h
  match ds, ra, e with
  | [.int i], .cons (.int _) .nil, e => cases e; exact call_int1 pn s σ H _ us Q I ‹_› (.inl ⟨_, rfl, q _ _ (Same.refl _) (.int _)⟩)
  | [.bool i], .cons (.bl _) .nil, e => cases e; exact call_int1 pn s σ H _ us Q I ‹_› (.inr ⟨_, rfl, q _ _ (Same.refl _) (.int _)⟩)
theorem c_min2 (hc : X.calm = true) : CallR X (.builtin "min") (rC min2D) := by
  intro pn s σ H xs us Q I r h
  obtain ⟨M, ds, d, dm, ra, e, q⟩ := h
  match ds, ra, e with
  | [.int i, .int j], .cons (.int _) (.cons (.int _) .nil), e => cases e; exact call_min2 hc pn s σ H _ us Q I ‹_› ⟨_, _, rfl, q _ _ (Same.refl _) (.int _)⟩
theorem c_max2 (hc : X.calm = true) : CallR X (.builtin "max") (rC max2D) := by
  intro pn s σ H xs us Q I r h
  obtain ⟨M, ds, d, dm, ra, e, q⟩ := h
  match ds, ra, e with
  | [.int i, .int j], .cons (.int _) (.cons (.int _) .nil), e => cases e; exact call_max2 hc pn s σ H _ us Q I ‹_› ⟨_, _, rfl, q _ _ (Same.refl _) (.int _)⟩
theorem c_abs : CallR X (.builtin "abs") (rC absD) := by
  intro pn s σ H xs us Q I r h
  obtain ⟨M, ds, d, dm, ra, e, q⟩ := h
  match ds, ra, e with
  | [.int i], .cons (.int _) .nil, e => cases e; exact call_abs pn s σ H _ us Q I ‹_› ⟨_, rfl, q _ _ (Same.refl _) (.int _)⟩
theorem dE_callB {x : Str} {p pos : Pos} {e : Expr} {es : List Expr} {id : String} {g : List D → Option D} {f : Rho → Option (List D)} {μ : Bool} (c : CallR X (.builtin id) (rC g)) (hg : Gl X x) (hm : X.mg x = none) (hv : bootBuiltins x = some (.builtin id)) (ha : PA X (e :: es) (tA μ f))
    (hn : x ≠ "__name__" := by decide) (hdb : (x == ("__debug__" : Str)) = false := by decide) (he : starEach (e :: es) X.env = (false, eval e X.env) :: starEach es X.env := by rfl) (hpl : (backTo pos (starEach es X.env)).any (·.1) = false := by rfl) :
    PE X (.Call (.Name x p) (e :: es) [] pos) (tD μ (eCall g f)) := (pe_callB c hg hm hv ha hn hdb he hpl).wk fun _ _ _ q => dCall q
theorem dE_callTy {x : Str} {p pos : Pos} {e : Expr} {es : List Expr} {T : String} {g : List D → Option D} {f : Rho → Option (List D)} {μ : Bool} (c : CallR X (.type T) (rC g)) (hg : Gl X x) (hm : X.mg x = none) (hv : bootBuiltins x = some (.type T)) (ha : PA X (e :: es) (tA μ f))
    (hn : x ≠ "__name__" := by decide) (hdb : (x == ("__debug__" : Str)) = false := by decide) (he : starEach (e :: es) X.env = (false, eval e X.env) :: starEach es X.env := by rfl) (hpl : (backTo pos (starEach es X.env)).any (·.1) = false := by rfl) :
    PE X (.Call (.Name x p) (e :: es) [] pos) (tD μ (eCall g f)) := (pe_callTy c hg hm hv ha hn hdb he hpl).wk fun _ _ _ q => dCall q
/-! isinstance -/
def tyN : D → String
  | .none => "NoneType"
  | .bool _ => "bool"
  | .int _ => "int"
  | .str _ => "str"
  | .list _ => "list"
  | .tuple _ => "tuple"
  | .dict _ => "dict"
def isTy (T : String) (d : D) : Option D := (kitB (tyN d) T).map .bool
theorem Rp.ty {K : PySem.W.Frag} {M : Addr → Prop} {H : Hp} {v : V} {d : D} (r : Rp M H v d) : TyX K H v (.type (tyN d)) := by
  cases r with
  | non => exact .base .non
  | bl b => exact .base (.bl b)
  | int i => exact .base (.int i)
  | str x hx => exact .base (.str x)
  | tup t n l r => obtain ⟨o, e, _⟩ := t; exact .fTuple e
  | lst t n l r => exact .base (.lst t)
  | dic t n => exact .base (.dK t)
theorem dE_isi {p pos : Pos} {e e2 : Expr} {T : String} {f : EF} {μ : Bool} (h : PE X e (tD μ f)) (hT : PE X e2 (tC (.ty T))) (hg : Gl X "isinstance") (hm : X.mg "isinstance" = none) (hv : bootBuiltins "isinstance" = some (.builtin "isinstance"))
    (he : starEach (e :: [e2]) X.env = (false, eval e X.env) :: starEach [e2] X.env := by rfl) (he2 : starEach (e2 :: []) X.env = (false, eval e2 X.env) :: starEach [] X.env := by rfl) (hpl : (backTo pos (starEach [e2] X.env)).any (·.1) = false := by rfl) :
    PE X (.Call (.Name "isinstance" p) [e, e2] [] pos) (tD μ (e1 (isTy T) f)) := (pe_callB call_isi hg hm hv (pa_cons h (pa_cons hT pa_nil he2) he) (by decide) (by decide) he hpl).wk fun σ H Q q => by
  obtain ⟨M0, H0, ρ, d, R, e, q⟩ := q
  obtain ⟨d1, e1, e⟩ := some_bind e
  obtain ⟨b, eb, rfl⟩ := some_map e
  exact ⟨M0, H0, ρ, d1, R, e1, fun v H1 s1 r1 => ⟨v, .ty T, .type (tyN d1), .type T, b, rfl, .ty T, r1.ty, kit_ty eb, q _ _ s1 (.bl _)⟩⟩
/-! signs of a text, one by one -/
def strL (z : Str) : List D := z.cps.toList.map fun c => .str ⟨#[c]⟩
def itStr (f : EF) : Rho → Option (List D) := fun ρ => (f ρ).bind fun d => match d with
  | .str z => some (strL z)
  | _ => none
theorem dI_str {tg e : Expr} {f : EF} {μ : Bool} (h : PE X e (tD μ f)) : PI X tg e (iD μ false (itStr f)) := (pi_str h).wk fun σ H R q => by
  obtain ⟨M0, H0, ρ, items, Rr, e, q⟩ := q
  obtain ⟨d, ed, e⟩ := some_bind e
  refine ⟨M0, H0, ρ, d, Rr, ed, fun v H1 s1 r1 => ?_⟩
  cases r1 <;> try (cases e; done)
  rename_i z l
  cases e
  have hl : (strL z).length = z.cps.size := by unfold strL; rw [List.length_map, Array.length_toList]
  refine ⟨z, rfl, q _ _ s1 fun M' hM => ⟨⟨_, _, by rw [hl]; exact walk_str, fun _ _ => trivial, fun i v Ha Hb k y => ?_⟩, by rw [hl]; exact l⟩⟩
  obtain ⟨rfl, c, ec, rfl⟩ := y
  refine ⟨.str ⟨#[c]⟩, ?_, Same.refl _, .inl (.str _ (show 1 ≤ sizeLine by decide))⟩
  unfold strL
  rw [List.getElem?_map, Array.getElem?_toList, ec]
  rfl
/-! tuple(range(n)), t * n -/
def tTupRg (te : L2.St → Hp → (Int → Int → Hp → Prop) → Prop) : TE := fun σ H Q => te σ H fun a b H1 => RgOk a b ∧ ∀ p H', H1 p = none → Same H1 H' → TupF H' p (rgV a b) → Q (.ref p) H'
theorem pe_tupRg {e : Expr} {te : L2.St → Hp → (Int → Int → Hp → Prop) → Prop} {p pos : Pos} (hc : X.calm = true) (hg : Gl X "tuple") (hm : X.mg "tuple" = none) (he : PRg X e te) (na : starEach [e] X.env = (false, eval e X.env) :: starEach [] X.env := by rfl) :
    PE X (.Call (.Name "tuple" p) [e] [] pos) (tTupRg te) := ⟨fun pn s σ H Q I h => Call_ (ld_blt I hg hm boot_tuple (callWith_type1 (args_cons (thn (he pn s σ H _ I h) fun x s1 ⟨r, a, b, t, u, v, H1, ex, hr, I1, ok, q⟩ => args_nil (by
    subst ex
    obtain ⟨b1, b2, b3, b4, b5⟩ := ok
    refine call_tuple_range (I1.ok.hd hc) hr (small_one b1 b2 b3 b4) (rangeSize_nat a b) b5 fun h' tk acc hk hi => ?_
    have J : L2.Inv X pn σ H1 { s1 with heap := h', toks := tk } := I1.kept (t' := tk) hk
    have J2 := Inv.tupF J (vals_rg hi) (by rw [rgV_length]; exact Nat.le_trans b5 (by decide))
    have fr := J.hok.fresh (Nat.le_refl h'.objs.size)
    rw [Array.toArray_toList] at J2
    exact ⟨.ref h'.objs.size, _, J2, rfl, q _ _ fr (smN fr) ⟨_, upd_same, rfl⟩⟩)) na) na) (by decide) (by decide)) rfl⟩
def eTupRg (f : EF) : EF := fun ρ => (f ρ).bind fun d => match d with
  | .int n => if -(2 ^ 62) ≤ n ∧ n < 2 ^ 20 then some (.tuple (rgD 0 n.toNat)) else none
  | _ => none
theorem rgV_rp {M : Addr → Prop} {H : Hp} (n : Int) : RpAll M H (rgV 0 n) (rgD 0 n.toNat) := by
  unfold rgV rgD
  rw [Int.sub_zero]
  induction (List.range n.toNat) with
  | nil => exact .nil
  | cons i r ih => exact .cons (.int _) ih
theorem dE_tupRg {e : Expr} {p pos p2 pos2 : Pos} {f : EF} {μ : Bool} (hc : X.calm = true) (hg : Gl X "tuple") (hm : X.mg "tuple" = none) (hg2 : Gl X "range") (hm2 : X.mg "range" = none) (h : PE X e (tD μ f)) (na : starEach [(Expr.Call (.Name "range" p2) [e] [] pos2)] X.env = (false, eval (Expr.Call (.Name "range" p2) [e] [] pos2) X.env) :: starEach [] X.env := by rfl) (nb : starEach [e] X.env = [(false, eval e X.env)] := by rfl) :
    PE X (.Call (.Name "tuple" p) [.Call (.Name "range" p2) [e] [] pos2] [] pos) (tD μ (eTupRg f)) := (pe_tupRg hc hg hm (prg_1 hg2 hm2 h nb) na).wk fun σ H Q q => by
  obtain ⟨M0, H0, ρ, d, R, e, q⟩ := q
  obtain ⟨d1, e1, e⟩ := some_bind e
  refine ⟨M0, H0, ρ, d1, R, e1, fun v H1 s1 r1 => ?_⟩
  cases r1 <;> try (cases e; done)
  rename_i n
  obtain ⟨l, rfl⟩ := iteS e
  refine ⟨n, rfl, ⟨by decide, by decide, l.1, by omega, by omega⟩, fun a H2 np s2 t => q _ _ (s1.trans s2) (.tup t (((R.mono s1).domu μ).not np) (by rw [rgV_length]; exact szR (by omega)) (rgV_rp n))⟩
/-- t * k -/
def rRepF : R2 := fun x y H Q => ∃ l k xs, x = .ref l ∧ y = .int k ∧ TupF H l xs ∧ xs ≠ [] ∧ 1 ≤ k ∧ k ≤ 1000 ∧ xs.length ≤ 1000 ∧ ∀ p H', (H p = none ∨ p = l) → Same H H' → TupF H' p (List.replicate k.toNat xs).flatten → Q (.ref p) H'
theorem arr_fold {α : Type} : ∀ (l : List (Array α)) (b : Array α), (l.foldl (fun x1 x2 => x1 ++ x2) b).toList = b.toList ++ (l.map Array.toList).flatten
  | [], b => by simp
  | a :: l, b => by
    rw [List.foldl_cons, arr_fold l, Array.toList_append, List.map_cons, List.flatten_cons, List.append_assoc]
theorem vals_rep {xs : List V} {us : List Value} (r : Vals xs us) : ∀ n : Nat, Vals (List.replicate n xs).flatten (List.replicate n us).flatten
  | 0 => .nil
  | n + 1 => by
    rw [List.replicate_succ, List.replicate_succ, List.flatten_cons, List.flatten_cons]
    exact r.append (vals_rep r n)
theorem rep_len {α : Type} {xs : List α} (n : Nat) : (List.replicate n xs).flatten.length = n * xs.length := by
  rw [List.length_flatten, List.map_replicate, List.sum_replicate_nat]
theorem op_repF : OpR X (binaryOp .Mult) rRepF := by
  intro pins s σ H x y v u Q I rx ry h
  obtain ⟨l, k, xs, rfl, rfl, hT, hne, h1, h2, hz, q⟩ := h
  cases rx
  obtain ⟨t, rfl⟩ := ry
  obtain ⟨its, r, ⟨⟨cls, dd, data, sl⟩, ho, hc, n, hd⟩, hs⟩ := I.tuple (hT.sq (K := X.K))
  simp only at hc hd
  subst hc hd
  by_cases e : k = 1
  · subst e
    refine wpAny_binaryOp_repeat_ref (T := "tuple") (U := "int") (by decide) ⟨_, ho, rfl⟩ (fun s' => typeIs_int s' 1 t) noFill_tuple_mul F.fills_int_mul F.slot_int_rmul repeat_tuple F.slot_int_index.lookup
      (call_meets F.slot_int_rmul (typeIs_int s 1 t) F.entry_int_rmul (F.args_int_rmul_2 _ _) (int_rmul_tuple 1 t l its.toArray n dd sl)
        ⟨ho, rfl, ⟨_, ho, rfl⟩, call_meets F.slot_tuple_mul ⟨_, ho, rfl⟩ F.entry_tuple_mul (F.args_tuple_mul_2 _ _) (tuple_mul1 l its.toArray n dd sl t (by simp)) ⟨ho, ?_⟩⟩)
    refine ⟨.ref l, H, I, rfl, q l H (.inr rfl) (Same.refl H) ?_⟩
    simpa using hT
  · have hl := r.length
    have n0 : 0 < its.length := by
      rw [← hl]
      exact List.length_pos_iff.mpr hne
    have ie : its.toArray.isEmpty = false := by
      cases its with
      | nil => exact absurd n0 (by decide)
      | cons a b => rfl
    have fl : (List.foldl (fun x1 x2 => x1 ++ x2) #[] (List.replicate k.toNat its.toArray)).toList = (List.replicate k.toNat its).flatten := by
      rw [arr_fold, List.map_replicate]
      simp
    have sz2 : (List.replicate k.toNat its).flatten.length ≤ sizeLine := by
      rw [rep_len]
      have h3 : k.toNat * its.length ≤ 1000 * 1000 := Nat.mul_le_mul (by omega) (by omega)
      exact Nat.le_trans h3 (by decide)
    have hb : (its.length : Int) * k ≤ 1000 * 1000 := Int.mul_le_mul (by omega) h2 (by omega) (by decide)
    have hb0 : 0 ≤ (its.length : Int) * k := Int.mul_nonneg (by omega) (by omega)
    refine wpAny_binaryOp_repeat_ref (T := "tuple") (U := "int") (by decide) ⟨_, ho, rfl⟩ (fun s' => typeIs_int s' k t) noFill_tuple_mul F.fills_int_mul F.slot_int_rmul repeat_tuple F.slot_int_index.lookup
      (call_meets F.slot_int_rmul (typeIs_int s k t) F.entry_int_rmul (F.args_int_rmul_2 _ _) (int_rmul_tuple k t l its.toArray n dd sl)
        ⟨ho, rfl, ⟨_, ho, rfl⟩, call_meets F.slot_tuple_mul ⟨_, ho, rfl⟩ F.entry_tuple_mul (F.args_tuple_mul_2 _ _) (tuple_mulW l its.toArray n dd sl k t (by simp; omega) (by rw [ie]; simpa using e) (by rw [ie]; simp; omega) ?_ ?_ ?_) ⟨ho, ?_⟩⟩)
    · rw [List.size_toArray]
      have : ((2 : Int) ^ 63 - 1) / 8 = 1152921504606846975 := by decide
      omega
    · rw [List.size_toArray]
      unfold Builtin.Tuple.tupleTooMany
      refine decide_eq_false ?_
      have : ((sizeLine : Nat) : Int) = 16777216 := by decide
      omega
    · rw [← Array.length_toList, fl]; exact sz2
    · have fr := I.hok.fresh (Nat.le_refl s.heap.objs.size)
      have J := Inv.tupF I (vals_rep r k.toNat) (by rw [rep_len, hl, ← rep_len]; exact sz2)
      rw [← fl, Array.toArray_toList] at J
      exact ⟨.ref s.heap.objs.size, _, J, rfl, q _ _ (.inl fr) (smN fr) ⟨_, upd_same, rfl⟩⟩
theorem RpAll.rep {M : Addr → Prop} {H : Hp} {vs : List V} {ds : List D} (h : RpAll M H vs ds) : ∀ n : Nat, RpAll M H (List.replicate n vs).flatten (List.replicate n ds).flatten
  | 0 => .nil
  | n + 1 => by
    rw [List.replicate_succ, List.replicate_succ, List.flatten_cons, List.flatten_cons]
    exact h.app (h.rep n)
def repS (z : Str) (n : Nat) : Str := ⟨(List.replicate n z.cps.toList).flatten.toArray⟩
def mulX : D → D → Option D
  | .int i, .int j => mulD (.int i) (.int j)
  | .tuple ds, .int k => if ds ≠ [] ∧ 1 ≤ k ∧ k ≤ 1000 ∧ ds.length ≤ 1000 then some (.tuple (List.replicate k.toNat ds).flatten) else none
  | .list ds, .int k => if 0 ≤ k ∧ k ≤ 1000 ∧ ds.length ≤ 1000 then some (.list (List.replicate k.toNat ds).flatten) else none
  | .str z, .int n => if 1 ≤ n ∧ n ≤ 100 ∧ 0 < z.length ∧ z.length ≤ 100 then some (.str (repS z n.toNat)) else none
  | _, _ => none
theorem o_mulX : OpR X (binaryOp .Mult) (rD mulX) := by
  intro pn s σ H x y v u Q I rx ry h
  obtain ⟨M, a, b, d, dm, ra, rb, e, q⟩ := h
  cases ra <;> cases rb <;> try (cases e; done)
  · exact o_mul pn s σ H _ _ v u Q I rx ry ⟨M, _, _, d, dm, .int _, .int _, e, q⟩
  · rename_i z hz n
    obtain ⟨l, rfl⟩ := iteS e
    refine op_repS pn s σ H _ _ v u Q I rx ry ⟨_, _, rfl, rfl, l.1, l.2.1, l.2.2.1, l.2.2.2, fun r hr _ => ?_⟩
    have : r = repS z n.toNat := by
      cases r with
      | mk a =>
        unfold repS
        congr
        rw [← Array.toArray_toList (xs := a), ← hr]
    rw [this]
    refine q _ _ (Same.refl _) (.str _ ?_)
    unfold repS
    show (List.toArray _).size ≤ _
    rw [List.size_toArray, rep_len, Array.length_toList]
    exact Nat.le_trans (Nat.mul_le_mul (show n.toNat ≤ 100 by omega) l.2.2.2) (by decide)
  · rename_i t n l r k
    obtain ⟨l2, rfl⟩ := iteS e
    have hl := r.len
    refine op_repF pn s σ H _ _ v u Q I rx ry ⟨_, _, _, rfl, rfl, t, fun z => l2.1 ?_, l2.2.1, l2.2.2.1, by rw [hl]; exact l2.2.2.2, fun p H' hp sm t' => q _ _ sm (.tup t' (fun m => ?_) ?_ ((r.mono (.of sm)).rep _))⟩
    · subst z; cases r; rfl
    · rcases hp with hp | hp
      · exact dm p m hp
      · rw [hp] at m; exact n m
    · rw [rep_len, hl]
      exact Nat.le_trans (Nat.mul_le_mul (show k.toNat ≤ 1000 by omega) l2.2.2.2) (by decide)
  · rename_i t n l r k
    obtain ⟨l2, rfl⟩ := iteS e
    have hl := r.len
    have hm : (List.length ‹List V›) * k.toNat ≤ sizeLine := by
      rw [hl]
      exact Nat.le_trans (Nat.mul_le_mul l2.2.2 (show k.toNat ≤ 1000 by omega)) (by decide)
    exact op_rep pn s σ H _ _ v u Q I rx ry ⟨_, _, _, rfl, rfl, t, by omega, by omega, hm, fun p hp => q _ _ (smN hp) (.lst upd_same (dm.not hp) (by rw [rep_len, Nat.mul_comm]; exact hm) ((r.mono (.of (smN hp))).rep _))⟩
end
end Dl
namespace Dl
open PySem PySem.Spec PyProof.Rows L2 Rt
/-! ### what is drawn from: a thing with a store of draws -/
abbrev Pl := Rt.Gd
def _root_.Rt.Gd.h (g : Rt.Gd) : V := .ref g.d
def _root_.Rt.Gd.own (g : Rt.Gd) (p : Addr) : Prop := p = g.d ∨ p = g.c ∨ p = g.r
def _root_.Rt.Gd.inv (g : Rt.Gd) (b : Nat) (H : Hp) : Prop := Fu g b H
theorem _root_.Rt.Gd.alive (g : Rt.Gd) {b : Nat} {H : Hp} {p : Addr} (i : g.inv b H) (o : g.own p) : H p ≠ none := fun e => by
  have f := Fu.off i e
  rcases o with o | o | o
  · exact f.d o
  · exact f.c o
  · exact f.r o
theorem _root_.Rt.Gd.loc (g : Rt.Gd) {b : Nat} {H H' : Hp} (i : g.inv b H) (h : ∀ p, g.own p → H' p = H p) : g.inv b H' := Fu.loc i (h _ (.inl rfl)) (h _ (.inr (.inl rfl))) (h _ (.inr (.inr rfl)))
theorem Pl.same {g : Pl} {b : Nat} {H H' : Hp} (i : g.inv b H) (s : Same H H') : g.inv b H' := g.loc i fun p o => by
  cases e : H p with
  | none => exact (g.alive i o e).elim
  | some u => exact s p u e
/-- readings that draw -/
structure WP (α : Type) where
  w : Rho → Nat → (α → Nat → Prop) → Prop
  m : ∀ {ρ b P Q}, (∀ a b', P a b' → Q a b') → w ρ b P → w ρ b Q
structure Rn (g : Pl) (M0 : Addr → Prop) (H0 H : Hp) (σ : L2.St) (ρ : Rho) (b : Nat) : Prop where
  kp : KpM g.own H0 H
  dom0 : Dom M0 H0
  dom : Dom M0 H
  pl : ∀ p, g.own p → M0 p
  iv : g.inv b H
  len : ρ.length = σ.length
  dat : ∀ (i : Nat) (d : D), ρ[i]? = some (some (.dat d)) → ∃ v, σ[i]? = some (some v) ∧ Rp (Mu true M0 σ ρ) H v d
  own : ∀ (i : Nat) (ds : List D), ρ[i]? = some (some (.own ds)) → ∃ p vs, σ[i]? = some (some (.ref p)) ∧ H p = some (.lst vs) ∧ H0 p = none ∧ vs.length ≤ sizeLine ∧ RpAll (Mu true M0 σ ρ) H vs ds
  raw : ∀ (i : Nat) (v : V), ρ[i]? = some (some (.raw v)) → σ[i]? = some (some v)
  pool : ∀ (i : Nat), ρ[i]? = some (some .pool) → σ[i]? = some (some g.h)
  inj : ∀ (i j : Nat) (a b : List D) (p : Addr), ρ[i]? = some (some (.own a)) → ρ[j]? = some (some (.own b)) → σ[i]? = some (some (.ref p)) → σ[j]? = some (some (.ref p)) → i = j
theorem Rn.up {g : Pl} {M0 : Addr → Prop} {H0 H : Hp} {σ : L2.St} {ρ : Rho} {b : Nat} (R : Rn g M0 H0 H σ ρ b) {H' : Hp} {b' : Nat} (k : KpM g.own H H') (iv : g.inv b' H') : Rn g M0 H0 H' σ ρ b' where
  kp := fun p o n e => k p o n (R.kp p o n e)
  dom0 := R.dom0
  dom := fun p m e => by
    by_cases o : g.own p
    · exact g.alive iv o e
    · cases z : H p with
      | none => exact R.dom p m z
      | some u => rw [k p u o z] at e; cases e
  pl := R.pl
  iv := iv
  len := R.len
  dat := fun i d e => by
    obtain ⟨v, a, c⟩ := R.dat i d e
    exact ⟨v, a, c.mono fun p o n e => k p o (fun z => n (.inl (R.pl p z))) e⟩
  own := fun i ds e => by
    obtain ⟨p, vs, a, c, z, l, r⟩ := R.own i ds e
    exact ⟨p, vs, a, k p _ (fun o => R.dom0 p (R.pl p o) z) c, z, l, r.mono fun p o n e => k p o (fun z => n (.inl (R.pl p z))) e⟩
  raw := R.raw
  pool := R.pool
  inj := R.inj
theorem Rn.mono {g : Pl} {M0 : Addr → Prop} {H0 H : Hp} {σ : L2.St} {ρ : Rho} {b : Nat} (R : Rn g M0 H0 H σ ρ b) {H' : Hp} (s : Same H H') : Rn g M0 H0 H' σ ρ b := R.up (.of s) (Pl.same R.iv s)
theorem Rn.domu {g : Pl} {M0 : Addr → Prop} {H0 H : Hp} {σ : L2.St} {ρ : Rho} {b : Nat} (R : Rn g M0 H0 H σ ρ b) (μ : Bool) : Dom (Mu μ M0 σ ρ) H := fun p m e => by
  rcases m with m | ⟨_, i, ds, e1, e2⟩
  · exact R.dom p m e
  · obtain ⟨q, vs, a, b, _⟩ := R.own i ds e1
    rw [e2] at a
    cases a
    rw [b] at e
    cases e
theorem KpM.tr {M : Addr → Prop} {H H1 H2 : Hp} (a : KpM M H H1) (b : KpM M H1 H2) : KpM M H H2 := fun p o n e => b p o n (a p o n e)
/-- the slots as a reading without draws sees them -/
theorem shut_nown {μ : Bool} {ρ : Rho} {i : Nat} {ds : List D} (e : (shutR μ ρ)[i]? = some (some (.own ds))) : False := by
  rcases seal_get e with ⟨_, z⟩ | ⟨_, _, _, z⟩
  · exact z ds rfl
  · cases z
theorem Rn.rs {g : Pl} {M0 : Addr → Prop} {H0 H : Hp} {σ : L2.St} {ρ : Rho} {b : Nat} (R : Rn g M0 H0 H σ ρ b) (μ : Bool) : Rs (Mu μ M0 σ ρ) H H σ (shutR μ ρ) := by
  have no : ∀ a, Mu true (Mu μ M0 σ ρ) σ (shutR μ ρ) a → Mu μ M0 σ ρ a := fun a m => by
    rcases m with m | ⟨_, i, ds, e, _⟩
    · exact m
    · exact (shut_nown e).elim
  refine ⟨Same.refl _, R.domu μ, by unfold shutR; rw [List.length_map]; exact R.len, fun i d e => ?_, fun i ds e => (shut_nown e).elim, fun i v e => ?_, fun i j a b p e => (shut_nown e).elim⟩
  · rcases seal_get e with ⟨e8, _⟩ | ⟨rfl, ds, e8, z9⟩
    · obtain ⟨v, a, c⟩ := R.dat i d e8
      exact ⟨v, a, c.reM fun a m => Mu.up a (no a m)⟩
    · cases z9
      obtain ⟨p, vs, a, c, z, l, r⟩ := R.own i ds e8
      refine ⟨.ref p, a, .lst c (fun m => ?_) l (r.reM fun a m => Mu.up a (no a m))⟩
      rcases no p m with m | ⟨z, _⟩
      · exact R.dom0 p m z
      · cases z
  · rcases seal_get e with ⟨e8, _⟩ | ⟨_, _, _, z9⟩
    · exact R.raw i v e8
    · cases z9
def tn (f : WP D) : TE := fun σ H Q => ∃ g M0 H0 ρ b, Rn g M0 H0 H σ ρ b ∧ f.w ρ b fun d b' => ∀ v H', KpM g.own H H' → g.inv b' H' → Rp (Mu true M0 σ ρ) H' v d → Q v H'
def tnA (f : WP (List D)) : TA := fun σ H Q => ∃ g M0 H0 ρ b, Rn g M0 H0 H σ ρ b ∧ f.w ρ b fun ds b' => ∀ vs H', KpM g.own H H' → g.inv b' H' → RpAll (Mu true M0 σ ρ) H' vs ds → Q vs H'
def tnT (f : WP Bool) : TT := fun σ H Q => ∃ g M0 H0 ρ b, Rn g M0 H0 H σ ρ b ∧ f.w ρ b fun k b' => ∀ H', KpM g.own H H' → g.inv b' H' → Q k H'
/-! readings -/
def wP {α : Type} (f : Rho → Option α) : WP α := ⟨fun ρ b Q => ∃ d, f (shutR true ρ) = some d ∧ Q d b, fun h ⟨d, e, q⟩ => ⟨d, e, h _ _ q⟩⟩
def wB {α β : Type} (f : WP α) (g : α → Option β) : WP β := ⟨fun ρ b Q => f.w ρ b fun a b' => ∃ d, g a = some d ∧ Q d b', fun h z => f.m (fun a b' ⟨d, e, q⟩ => ⟨d, e, h _ _ q⟩) z⟩
def w2 {α β γ : Type} (f : WP α) (g : WP β) (h : α → β → Option γ) : WP γ := ⟨fun ρ b Q => f.w ρ b fun a b1 => g.w ρ b1 fun c b2 => ∃ d, h a c = some d ∧ Q d b2, fun k z => f.m (fun a b' y => g.m (fun c b2 ⟨d, e, q⟩ => ⟨d, e, k _ _ q⟩) y) z⟩
section
variable {X : Cx} {K : PySem.W.Frag}
theorem nE_pure {e : Expr} {f : EF} (h : PE X e (tD true f)) : PE X e (tn (wP f)) := h.wk fun σ H Q q => by
  obtain ⟨g, M0, H0, ρ, b, R, d, e, q⟩ := q
  exact ⟨_, H, _, d, R.rs true, e, fun v H1 s1 r1 => q v H1 (.of s1) (Pl.same R.iv s1) (r1.reM fun a m => .inl (.inl m))⟩
def wL (f : EF) : WP D := ⟨fun ρ b Q => ∃ d, f (shutR false ρ) = some d ∧ nl d = true ∧ Q d b, fun h ⟨d, e, n, q⟩ => ⟨d, e, n, h _ _ q⟩⟩
theorem nE_loose {e : Expr} {f : EF} {μ : Bool} (h : PE X e (tD μ f)) : PE X e (tn (wL f)) := h.wk fun σ H Q q => by
  obtain ⟨g, M0, H0, ρ, b, R, d, e, n, q⟩ := q
  refine ⟨_, H, _, d, R.rs false, e, fun v H1 s1 r1 => q v H1 (.of s1) (Pl.same R.iv s1) ((r1.reM (M' := M0) fun a m => .inl (.inl (.inl m))).nl n fun a m => ?_)⟩
  rcases m with m | ⟨_, i, ds, e1, e2⟩
  · exact .inl m
  · obtain ⟨p, vs, x, y, _⟩ := (R.mono s1).own i ds e1
    rw [e2] at x
    cases x
    exact .inr ⟨_, y⟩
theorem nT_pure {e : Expr} {f : Rho → Option Bool} (h : PT X e (tT f)) : PT X e (tnT (wP f)) := h.wk fun σ H Q q => by
  obtain ⟨g, M0, H0, ρ, b, R, d, e, q⟩ := q
  exact ⟨_, H, _, d, R.rs true, e, fun H1 s1 => q H1 (.of s1) (Pl.same R.iv s1)⟩
def wTL (f : Rho → Option Bool) : WP Bool := ⟨fun ρ b Q => ∃ d, f (shutR false ρ) = some d ∧ Q d b, fun h ⟨d, e, q⟩ => ⟨d, e, h _ _ q⟩⟩
theorem nT_loose {e : Expr} {f : Rho → Option Bool} (h : PT X e (tT f)) : PT X e (tnT (wTL f)) := h.wk fun σ H Q q => by
  obtain ⟨g, M0, H0, ρ, b, R, d, e, q⟩ := q
  exact ⟨_, H, _, d, R.rs false, e, fun H1 s1 => q H1 (.of s1) (Pl.same R.iv s1)⟩
theorem nOp2 {g : D → D → Option D} {f1 f2 : WP D} {σ : L2.St} {H : Hp} {Q : VK} (q : tn (w2 f1 f2 g) σ H Q) : tOp (rD g) (tn f1) (tn f2) σ H Q := by
  obtain ⟨p, M0, H0, ρ, b, R, q⟩ := q
  refine ⟨p, M0, H0, ρ, b, R, f1.m (fun a b1 q x H1 k1 i1 r1 => ?_) q⟩
  refine ⟨p, M0, H0, ρ, b1, R.up k1 i1, f2.m (fun c b2 ⟨d, e, q⟩ y H2 k2 i2 r2 => ?_) q⟩
  exact ⟨_, a, c, d, ((R.up k1 i1).up k2 i2).domu true, r1.mono fun p o n e => k2 p o (fun z => n (.inl (R.pl p z))) e, r2, e, fun v H3 s3 r3 => q v H3 ((k1.tr k2).tr (.of s3)) (Pl.same i2 s3) r3⟩
theorem nE_op {a b : Expr} {op : Operator} {pos : Pos} {g : D → D → Option D} {f1 f2 : WP D} (o : OpR X (binaryOp op) (rD g)) (ha : PE X a (tn f1)) (hb : PE X b (tn f2)) : PE X (.BinOp a op b pos) (tn (w2 f1 f2 g)) := (pe_op o ha hb).wk fun _ _ _ q => nOp2 q
theorem nE_cmp {a b : Expr} {op : CmpOp} {pos : Pos} {g : D → D → Option D} {f1 f2 : WP D} (o : OpR X (compareOp op) (rD g)) (ha : PE X a (tn f1)) (hb : PE X b (tn f2)) (hm : behindInMarks op b = false) : PE X (.Compare a [op] [b] pos) (tn (w2 f1 f2 g)) := (pe_cmpR o ha hb hm).wk fun _ _ _ q => nOp2 q
theorem nE_ix {a b : Expr} {pos : Pos} {f1 f2 : WP D} (ha : PE X a (tn f1)) (hb : PE X b (tn f2)) (hp : PlainIx b := by exact fun _ _ => rfl) : PE X (.Subscript a b pos) (tn (w2 f1 f2 ixD)) := (pe_ix i_ix ha hb hp).wk fun _ _ _ q => nOp2 q
theorem nTest {f : WP D} {σ : L2.St} {H : Hp} {Q : Bool → Hp → Prop} (q : tnT (wB f bB) σ H Q) : tn f σ H (fun x H1 => ∃ c, x = V.bl c ∧ Q c H1) := by
  obtain ⟨p, M0, H0, ρ, b, R, q⟩ := q
  exact ⟨p, M0, H0, ρ, b, R, f.m (fun d b1 ⟨c, e, q⟩ v H1 k1 i1 r1 => ⟨c, r1.ofB e, q H1 k1 i1⟩) q⟩
theorem nT_cmp {a b : Expr} {op : CmpOp} {pos : Pos} {g : D → D → Option D} {f1 f2 : WP D} (o : OpR X (compareOp op) (rD g)) (ha : PE X a (tn f1)) (hb : PE X b (tn f2)) (hm : behindInMarks op b = false) : PT X (.Compare a [op] [b] pos) (tnT (wB (w2 f1 f2 g) bB)) := (pt_cmpR o ha hb hm).wk fun σ H Q q => nOp2 (nTest q)
theorem nT_val {e : Expr} {f : WP D} (h : PE X e (tn f)) (ht : ∀ (whole : Sem Value), PySem.isTrue e X.env whole = (do
          let v ← whole
          standAt e.pos
          holding [v] (truthy v)) := by intro _; rfl) : PT X e (tnT (wB f bB)) := (pt_val h ht).wk fun σ H Q q => nTest q
def wNot (f : WP Bool) : WP Bool := wB f fun b => some (!b)
theorem nT_not {a : Expr} {pos : Pos} {f : WP Bool} (h : PT X a (tnT f)) : PT X (.UnaryOp .Not a pos) (tnT (wNot f)) := (pt_not h).wk fun σ H Q q => by
  obtain ⟨p, M0, H0, ρ, b, R, q⟩ := q
  exact ⟨p, M0, H0, ρ, b, R, f.m (fun c b1 ⟨d, e, q⟩ H1 k1 i1 => by cases e; exact q H1 k1 i1) q⟩
def wAnd (f g : WP Bool) : WP Bool := ⟨fun ρ b Q => f.w ρ b fun c b1 => if c = true then g.w ρ b1 Q else Q false b1, fun h z => f.m (fun c b1 y => by
  cases c with
  | true => exact g.m h y
  | false => exact h _ _ y) z⟩
def wOr (f g : WP Bool) : WP Bool := ⟨fun ρ b Q => f.w ρ b fun c b1 => if c = true then Q true b1 else g.w ρ b1 Q, fun h z => f.m (fun c b1 y => by
  cases c with
  | true => exact h _ _ y
  | false => exact g.m h y) z⟩
theorem nW_and1 {a : Expr} {pos : Pos} {f : WP Bool} (h : PT X a (tnT f)) : PW X (.BoolOp .And [a] pos) (tnT f) := pw_and1 h
theorem nW_or1 {a : Expr} {pos : Pos} {f : WP Bool} (h : PT X a (tnT f)) : PW X (.BoolOp .Or [a] pos) (tnT f) := pw_or1 h
theorem nW_and {a b : Expr} {rest : List Expr} {pos : Pos} {f g : WP Bool} (ha : PT X a (tnT f)) (hb : PW X (.BoolOp .And (b :: rest) pos) (tnT g)) : PW X (.BoolOp .And (a :: b :: rest) pos) (tnT (wAnd f g)) := (pw_and ha hb).wk fun σ H Q q => by
  obtain ⟨p, M0, H0, ρ, b, R, q⟩ := q
  refine ⟨p, M0, H0, ρ, b, R, f.m (fun c b1 q H1 k1 i1 => ?_) q⟩
  cases c with
  | true => exact ⟨p, M0, H0, ρ, b1, R.up k1 i1, g.m (fun d b2 q H2 k2 i2 => q H2 (k1.tr k2) i2) q⟩
  | false => exact q H1 k1 i1
theorem nW_or {a b : Expr} {rest : List Expr} {pos : Pos} {f g : WP Bool} (ha : PT X a (tnT f)) (hb : PW X (.BoolOp .Or (b :: rest) pos) (tnT g)) : PW X (.BoolOp .Or (a :: b :: rest) pos) (tnT (wOr f g)) := (pw_or ha hb).wk fun σ H Q q => by
  obtain ⟨p, M0, H0, ρ, b, R, q⟩ := q
  refine ⟨p, M0, H0, ρ, b, R, f.m (fun c b1 q H1 k1 i1 => ?_) q⟩
  cases c with
  | true => exact q H1 k1 i1
  | false => exact ⟨p, M0, H0, ρ, b1, R.up k1 i1, g.m (fun d b2 q H2 k2 i2 => q H2 (k1.tr k2) i2) q⟩
def wIf {α : Type} (c : WP Bool) (f g : WP α) : WP α := ⟨fun ρ b Q => c.w ρ b fun k b1 => if k = true then f.w ρ b1 Q else g.w ρ b1 Q, fun h z => c.m (fun k b1 y => by
  cases k with
  | true => exact f.m h y
  | false => exact g.m h y) z⟩
theorem nE_if {a b c : Expr} {pos : Pos} {t : WP Bool} {f g : WP D} (hc : PT X c (tnT t)) (ha : PE X a (tn f)) (hb : PE X b (tn g)) : PE X (c.IfExp a b pos) (tn (wIf t f g)) := (pe_ifExp hc ha hb).wk fun σ H Q q => by
  obtain ⟨p, M0, H0, ρ, b, R, q⟩ := q
  refine ⟨p, M0, H0, ρ, b, R, t.m (fun k b1 q H1 k1 i1 => ?_) q⟩
  cases k with
  | true => exact ⟨p, M0, H0, ρ, b1, R.up k1 i1, f.m (fun d b2 q v H2 k2 i2 r2 => q v H2 (k1.tr k2) i2 r2) q⟩
  | false => exact ⟨p, M0, H0, ρ, b1, R.up k1 i1, g.m (fun d b2 q v H2 k2 i2 r2 => q v H2 (k1.tr k2) i2 r2) q⟩
def wNil : WP (List D) := ⟨fun _ b Q => Q [] b, fun h z => h _ _ z⟩
def wCons (f : WP D) (g : WP (List D)) : WP (List D) := w2 f g fun d ds => some (d :: ds)
theorem nA_nil : PA X [] (tnA wNil) := PA.weak pa_nil fun σ H Q q => by
  obtain ⟨p, M0, H0, ρ, b, R, q⟩ := q
  exact ⟨Q, q [] H .refl R.iv .nil, fun _ _ z => z⟩
theorem nA_cons {e : Expr} {es : List Expr} {f : WP D} {g : WP (List D)} (h : PE X e (tn f)) (hs : PA X es (tnA g)) (he : starEach (e :: es) X.env = (false, eval e X.env) :: starEach es X.env := by rfl) : PA X (e :: es) (tnA (wCons f g)) := PA.weak (pa_cons h hs he) fun σ H Q q => by
  obtain ⟨p, M0, H0, ρ, b, R, q⟩ := q
  refine ⟨Q, ⟨p, M0, H0, ρ, b, R, f.m (fun a b1 q x H1 k1 i1 r1 => ?_) q⟩, fun _ _ z => z⟩
  refine ⟨p, M0, H0, ρ, b1, R.up k1 i1, g.m (fun c b2 ⟨d, e, q⟩ y H2 k2 i2 r2 => ?_) q⟩
  cases e
  exact q _ H2 (k1.tr k2) i2 (.cons (r1.mono fun p o n e => k2 p o (fun z => n (.inl (R.pl p z))) e) r2)
def tupO (ds : List D) : Option D := if ds.length ≤ sizeLine then some (.tuple ds) else none
def lstO (ds : List D) : Option D := if ds.length ≤ sizeLine then some (.list ds) else none
theorem nE_tup {es : List Expr} {x1 : Nat} {pos : Pos} {g : WP (List D)} (h : PA X es (tnA g)) : PE X (.Tuple es x1 pos) (tn (wB g tupO)) := (pe_tupF h).wk fun σ H Q q => by
  obtain ⟨p, M0, H0, ρ, b, R, q⟩ := q
  refine ⟨p, M0, H0, ρ, b, R, g.m (fun ds b1 ⟨d, e, q⟩ vs H1 k1 i1 r1 => ?_) q⟩
  obtain ⟨l, rfl⟩ := iteS e
  exact ⟨by rw [r1.len]; exact l, fun a H2 np s2 t => q _ H2 (k1.tr (.of s2)) (Pl.same i1 s2) (.tup t (((R.up k1 i1).domu true).not np) (by rw [r1.len]; exact l) (r1.mono (.of s2)))⟩
theorem nE_lst {es : List Expr} {pos : Pos} {g : WP (List D)} (h : PA X es (tnA g)) : PE X (.List es pos) (tn (wB g lstO)) := (pe_lst h).wk fun σ H Q q => by
  obtain ⟨p, M0, H0, ρ, b, R, q⟩ := q
  refine ⟨p, M0, H0, ρ, b, R, g.m (fun ds b1 ⟨d, e, q⟩ vs H1 k1 i1 r1 => ?_) q⟩
  obtain ⟨l, rfl⟩ := iteS e
  exact ⟨by rw [r1.len]; exact l, fun a np => q _ _ (k1.tr (.of (smN np))) (Pl.same i1 (smN np)) (.lst upd_same (((R.up k1 i1).domu true).not np) (by rw [r1.len]; exact l) (r1.mono (.of (smN np))))⟩
theorem nCall {g : List D → Option D} {f : WP (List D)} {σ : L2.St} {H : Hp} {Q : VK} (q : tn (wB f g) σ H Q) : tCB (rC g) (tnA f) σ H Q := by
  obtain ⟨p, M0, H0, ρ, b, R, q⟩ := q
  refine ⟨p, M0, H0, ρ, b, R, f.m (fun ds b1 ⟨d, e, q⟩ vs H1 k1 i1 r1 => ?_) q⟩
  exact ⟨_, ds, d, (R.up k1 i1).domu true, r1, e, fun v H2 s2 r2 => q v H2 (k1.tr (.of s2)) (Pl.same i1 s2) r2⟩
theorem nE_cl {k n : Nat} {x : Str} {ps : List Str} {g : List D → Option D} {p pos : Pos} {e : Expr} {es : List Expr} {f : WP (List D)} (C : Cl X.prog X.w X.K X.mg X.base k x ps (spD n g)) (hr : Room k X.A) (hg : Gl X x) (ha : PA X (e :: es) (tnA f))
    (hdb : (x == ("__debug__" : Str)) = false := by decide) (he : starEach (e :: es) X.env = (false, eval e X.env) :: starEach es X.env := by rfl) (hpl : (backTo pos (starEach es X.env)).any (·.1) = false := by rfl) :
    PE X (.Call (.Name x p) (e :: es) [] pos) (tn (wB f (gN n g))) := (pe_cl C hr hg ha hdb he hpl).wk fun σ H Q q => by
  obtain ⟨p, M0, H0, ρ, b, R, q⟩ := q
  refine ⟨p, M0, H0, ρ, b, R, f.m (fun ds b1 ⟨d, e, q⟩ vs H1 k1 i1 r1 => ?_) q⟩
  unfold gN at e
  split at e
  · rename_i l
    rw [List.append_nil]
    exact ⟨_, ds, d, (R.up k1 i1).domu true, r1, l, e, fun v H2 s2 r2 => q v H2 (k1.tr (.of s2)) (Pl.same i1 s2) r2⟩
  · cases e
/-! a def that draws: its first argument is what is drawn from -/
structure GF where
  f : List D → Nat → (D → Nat → Prop) → Prop
  m : ∀ {ds b P Q}, (∀ d b', P d b' → Q d b') → f ds b P → f ds b Q
def spN (n : Nat) (F : GF) : Sp := fun vs H Q _ => ∃ (g : Pl) (M : Addr → Prop) (ws : List V) (ds : List D) (b : Nat), vs = g.h :: ws ∧ (∀ p, g.own p → M p) ∧ Dom M H ∧ g.inv b H ∧ RpAll M H ws ds ∧ ds.length = n ∧
  F.f ds b fun d b' => ∀ v H', KpM g.own H H' → g.inv b' H' → Rp M H' v d → Q v H'
def wCall (i n : Nat) (F : GF) (f : WP (List D)) : WP D := ⟨fun ρ b Q => ρ[i]? = some (some .pool) ∧ f.w ρ b fun ds b1 => ds.length = n ∧ F.f ds b1 Q, fun h z => ⟨z.1, f.m (fun ds b1 y => ⟨y.1, F.m h y.2⟩) z.2⟩⟩
theorem nE_draw {k n : Nat} {x : Str} {ps : List Str} {F : GF} {p pos : Pos} {e : Expr} {es : List Expr} {f : WP (List D)} {i : Nat} (C : Cl X.prog X.w X.K X.mg X.base k x ps (spN n F)) (hr : Room k X.A) (hg : Gl X x) (he0 : PE X e (tVar i)) (ha : PA X es (tnA f))
    (hdb : (x == ("__debug__" : Str)) = false := by decide) (he : starEach (e :: es) X.env = (false, eval e X.env) :: starEach es X.env := by rfl) (hpl : (backTo pos (starEach es X.env)).any (·.1) = false := by rfl) :
    PE X (.Call (.Name x p) (e :: es) [] pos) (tn (wCall i n F f)) := (pe_cl C hr hg (pa_cons he0 ha he) hdb he hpl).wk fun σ H Q q => by
  obtain ⟨p, M0, H0, ρ, b, R, ei, q⟩ := q
  refine ⟨_, R.pool i ei, p, M0, H0, ρ, b, R, f.m (fun ds b1 ⟨l, q⟩ vs H1 k1 i1 r1 => ?_) q⟩
  show spN n F ((p.h :: vs) ++ []) H1 Q E0
  rw [List.append_nil]
  exact ⟨p, _, vs, ds, b1, rfl, fun a o => .inl (R.pl a o), (R.up k1 i1).domu true, i1, r1, l, F.m (fun d b2 q v H2 k2 i2 r2 => q v H2 (k1.tr k2) i2 r2) q⟩
/-! ### walks and comprehensions -/
def inn (pr : Bool) (it : WP (List D)) : TI := fun σ H R => ∃ g M0 H0 ρ b, Rn g M0 H0 H σ ρ b ∧ it.w ρ b fun items b' => ∀ J H', KpM g.own H H' → g.inv b' H' → (∀ M', (∀ a, M' a → Mu true M0 σ ρ a ∨ H' a = none) → DW pr M' H' J items) → R J H'
theorem nI_pure {tg e : Expr} {pr : Bool} {it : Rho → Option (List D)} (h : PI X tg e (iD true pr it)) : PI X tg e (inn pr (wP it)) := h.wk fun σ H Q q => by
  obtain ⟨g, M0, H0, ρ, b, R, d, e, q⟩ := q
  exact ⟨_, H, _, d, R.rs true, e, fun J H1 s1 dw => q J H1 (.of s1) (Pl.same R.iv s1) fun M' hM => dw M' fun a m => (hM a m).elim (fun z => .inl (.inl z)) .inr⟩
def wI (it : Rho → Option (List D)) : WP (List D) := ⟨fun ρ b Q => ∃ d, it (shutR false ρ) = some d ∧ Q d b, fun h ⟨d, e, q⟩ => ⟨d, e, h _ _ q⟩⟩
theorem nI_ran1 {tg a : Expr} {p pos : Pos} {f : WP (List D)} (hg : Gl X "range") (hm : X.mg "range" = none) (ha : PA X [a] (tnA f)) (hs : starEach [a] X.env = [(false, eval a X.env)] := by rfl) : PI X tg (.Call (.Name "range" p) [a] [] pos) (inn false (wB f ran1D)) := (pi_range1 hg hm ha hs).wk fun σ H R q => by
  obtain ⟨p, M0, H0, ρ, b, Rr, q⟩ := q
  refine ⟨p, M0, H0, ρ, b, Rr, f.m (fun ds b1 ⟨d, e, q⟩ vs H1 k1 i1 r1 => ?_) q⟩
  cases r1 with
  | nil => cases e
  | cons h t =>
    cases t with
    | nil =>
      cases h <;> try (cases e; done)
      obtain ⟨l, rfl⟩ := iteS e
      exact ⟨_, rfl, l.1, by omega, q _ _ k1 i1 fun M' hM => DW.rng (szR (by omega))⟩
    | cons h2 t => cases h <;> cases e
theorem Rn.inner {g : Pl} {M0 : Addr → Prop} {H0 H H2 : Hp} {σ : L2.St} {ρ : Rho} {b b2 : Nat} {D : Addr} {acc : List V} (R : Rn g M0 H0 H σ ρ b) (hD : H D = none) (k : KpM g.own H H2) (i2 : g.inv b2 H2) (eD : H2 D = some (.lst acc)) (vs : List Nat) : Rn g (Mi true M0 σ ρ D) H2 H2 (wipe σ vs) (wipeR (shutR true ρ) vs) b2 := by
  have no : ∀ (vs : List Nat) a, Mu true (Mi true M0 σ ρ D) (wipe σ vs) (wipeR (shutR true ρ) vs) a → Mi true M0 σ ρ D a := fun vs a m => Mi.noOwn a m
  have nown : ∀ (vs : List Nat) (i : Nat) (ds : List Dl.D), (wipeR (shutR true ρ) vs)[i]? = some (some (.own ds)) → False := by
    intro vs
    induction vs with
    | nil => intro i ds e; exact shut_nown e
    | cons v vs ih =>
      intro i ds e
      rcases set_get (show ((wipeR (shutR true ρ) vs).set v none)[i]? = _ from e) with ⟨_, z⟩ | ⟨_, z⟩
      · cases z
      · exact ih i ds z
  have lv : ∀ (vs : List Nat) (i : Nat) (x : LV), (wipeR (shutR true ρ) vs)[i]? = some (some x) → ρ[i]? = some (some x) ∧ i ∉ vs := by
    intro vs
    induction vs with
    | nil =>
      intro i x e
      rcases seal_get (show (shutR true ρ)[i]? = _ from e) with ⟨e, _⟩ | ⟨z, _⟩
      · exact ⟨e, by simp⟩
      · cases z
    | cons v vs ih =>
      intro i x e
      rcases set_get (show ((wipeR (shutR true ρ) vs).set v none)[i]? = _ from e) with ⟨_, z⟩ | ⟨n, z⟩
      · cases z
      · have := ih i x z
        exact ⟨this.1, by simp only [List.mem_cons, not_or]; exact ⟨fun w => n w.symm, this.2⟩⟩
  have dm : Dom (Mi true M0 σ ρ D) H2 := fun p m => by
    rcases m with m | rfl
    · exact (R.up k i2).domu true p m
    · rw [eD]; intro z; cases z
  refine ⟨.refl, dm, dm, fun p o => .inl (.inl (R.pl p o)), i2, ?_, fun i d e => ?_, fun i ds e => (nown vs i ds e).elim, fun i v e => ?_, fun i e => ?_, fun i j a b p e => (nown vs i _ e).elim⟩
  · have : ∀ vs : List Nat, (wipeR (shutR true ρ) vs).length = ρ.length := by
      intro vs
      induction vs with
      | nil => unfold wipeR shutR; rw [List.length_map]
      | cons v vs ih => unfold wipeR; rw [List.length_set, ih]
    rw [this, wipe_len, R.len]
  · obtain ⟨e1, nv⟩ := lv vs i _ e
    obtain ⟨v, a, c⟩ := R.dat i d e1
    refine ⟨v, by rw [wipe_get nv]; exact a, (c.reM (M' := Mu true (Mi true M0 σ ρ D) (wipe σ vs) (wipeR (shutR true ρ) vs)) fun a m => ?_).mono fun p o n e => k p o (fun z => n (.inl (.inl (.inl (R.pl p z))))) e⟩
    rcases no vs a m with m | rfl
    · exact .inl m
    · exact .inr hD
  · obtain ⟨e1, nv⟩ := lv vs i _ e
    rw [wipe_get nv]
    exact R.raw i v e1
  · obtain ⟨e1, nv⟩ := lv vs i _ e
    rw [wipe_get nv]
    exact R.pool i e1
theorem Rn.set {g : Pl} {M0 : Addr → Prop} {H0 H : Hp} {σ : L2.St} {ρ : Rho} {b : Nat} {i : Nat} {v : V} {d : D} (R : Rn g M0 H0 H σ ρ b) (r : Rp (Mu true M0 σ ρ) H v d) : Rn g M0 H0 H (σ.set i (some v)) (ρ.set i (some (.dat d))) b := by
  have sh : ∀ a, Mu true M0 (σ.set i (some v)) (ρ.set i (some (.dat d))) a → Mu true M0 σ ρ a ∨ H a = none := fun a m => .inl (Mu.shrink (fun ds e => by cases e) a m)
  refine ⟨R.kp, R.dom0, R.dom, R.pl, R.iv, by rw [List.length_set, List.length_set]; exact R.len, fun j d' e => ?_, fun j ds e => ?_, fun j w e => ?_, fun j e => ?_, fun j k a b p e1 e2 e3 e4 => ?_⟩
  · rcases set_get e with ⟨rfl, e9⟩ | ⟨n, e⟩
    · cases e9
      have hl : i < ρ.length := by
        have := (List.getElem?_eq_some_iff.mp e).1
        rwa [List.length_set] at this
      exact ⟨v, set_same (by rw [← R.len]; exact hl), r.reM sh⟩
    · obtain ⟨w, x, y⟩ := R.dat j d' e
      exact ⟨w, by rw [set_other n]; exact x, y.reM sh⟩
  · rcases set_get e with ⟨rfl, e9⟩ | ⟨n, e⟩
    · cases e9
    · obtain ⟨p, vs, x, y, z, l, w⟩ := R.own j ds e
      exact ⟨p, vs, by rw [set_other n]; exact x, y, z, l, w.reM sh⟩
  · rcases set_get e with ⟨rfl, e9⟩ | ⟨n, e⟩
    · cases e9
    · rw [set_other n]; exact R.raw j w e
  · rcases set_get e with ⟨rfl, e9⟩ | ⟨n, e⟩
    · cases e9
    · rw [set_other n]; exact R.pool j e
  · rcases set_get e1 with ⟨rfl, e⟩ | ⟨n1, f1⟩
    · cases e
    rcases set_get e2 with ⟨rfl, e⟩ | ⟨n2, f2⟩
    · cases e
    rw [set_other n1] at e3
    rw [set_other n2] at e4
    exact R.inj j k a b p f1 f2 e3 e4
mutual
theorem bindP.okN {K : PySem.W.Frag} {g : Pl} {M0 : Addr → Prop} {H0 H : Hp} {b : Nat} : ∀ {p : Pat} {σ : L2.St} {ρ ρ' : Rho} {v : V} {d : D} {Q : L2.St → Hp → Prop} {pr : Bool}, Rn g M0 H0 H σ ρ b → RpI pr (Mu true M0 σ ρ) H v d → p.fits pr = true → bindP p d ρ = some ρ' →
    (∀ σ', Rn g M0 H0 H σ' ρ' b → Bnd M0 σ ρ (slP p) σ' ρ' → Q σ' H) → gP K p v σ H Q
  | .nm i, σ, ρ, ρ', v, d, Q, pr, R, r, ft, e, q => by
    have hpr : pr = false := by cases pr <;> first | rfl | cases ft
    subst hpr
    have r : Rp (Mu true M0 σ ρ) H v d := by
      rcases r with r | ⟨z, _⟩
      · exact r
      · cases z
    unfold bindP at e
    obtain ⟨l, rfl⟩ := iteS e
    refine q _ (R.set r) ⟨fun j hj => set_other fun z => hj (by rw [z]; exact List.mem_singleton.mpr rfl), List.length_set .., Mu.shrink fun ds e => by cases e⟩
  | .tp ps, σ, ρ, ρ', v, d, Q, pr, R, r, ft, e, q => by
    rcases r with r | ⟨_, a, xs, ds, rfl, rfl, t, r⟩
    · cases r <;> try (cases e; done)
      rename_i xs ds t n l r
      have hl := bindPs.len (show bindPs ps ds ρ = some ρ' from e)
      exact ⟨_, xs, rfl, t.sq, by rw [r.len]; exact hl, bindPs.okN R r e q⟩
    · have hl := bindPs.len (show bindPs ps ds ρ = some ρ' from e)
      exact ⟨_, xs, rfl, SqT.of t, by rw [r.len]; exact hl, bindPs.okN R r e q⟩
theorem bindPs.okN {K : PySem.W.Frag} {g : Pl} {M0 : Addr → Prop} {H0 H : Hp} {b : Nat} : ∀ {ps : Pats} {σ : L2.St} {ρ ρ' : Rho} {vs : List V} {ds : List D} {Q : L2.St → Hp → Prop}, Rn g M0 H0 H σ ρ b → RpAll (Mu true M0 σ ρ) H vs ds → bindPs ps ds ρ = some ρ' →
    (∀ σ', Rn g M0 H0 H σ' ρ' b → Bnd M0 σ ρ (slPs ps) σ' ρ' → Q σ' H) → gPs K ps vs σ H Q
  | .nil, σ, ρ, ρ', vs, ds, Q, R, r, e, q => by
    cases r with
    | nil => cases e; exact ⟨rfl, q σ R ⟨fun _ _ => rfl, rfl, fun a m => m⟩⟩
    | cons h t => cases e
  | .cons p ps, σ, ρ, ρ', vs, ds, Q, R, r, e, q => by
    cases r with
    | nil => cases e
    | cons h t =>
      unfold bindPs at e
      obtain ⟨ρ1, e1, e⟩ := some_bind e
      refine ⟨_, _, rfl, bindP.okN (pr := false) R (.inl h) (by cases p <;> rfl) e1 fun σ1 R1 B1 => ?_⟩
      refine bindPs.okN R1 (t.reM fun a m => .inl (B1.mu a m)) e fun σ2 R2 B2 => q σ2 R2 ⟨fun j hj => ?_, B2.len.trans B1.len, fun a m => B1.mu a (B2.mu a m)⟩
      have hj : j ∉ slP p ++ slPs ps := hj
      rw [List.mem_append, not_or] at hj
      rw [B2.oth j hj.2, B1.oth j hj.1]
end
def lcN (p : Pat) (c : WP Bool) (f : WP D) (ρ : Rho) : List D → Nat → (List D → Nat → Prop) → Prop
  | [], b, Q => Q [] b
  | x :: xs, b, Q => ∃ ρ1, bindP p x ρ = some ρ1 ∧ c.w ρ1 b fun k b1 => if k = true then f.w ρ1 b1 fun d b2 => lcN p c f ρ xs b2 fun r b3 => Q (d :: r) b3 else lcN p c f ρ xs b1 Q
theorem lcN.mono {p : Pat} {c : WP Bool} {f : WP D} {ρ : Rho} : ∀ {xs : List D} {b : Nat} {P Q : List D → Nat → Prop}, (∀ r b, P r b → Q r b) → lcN p c f ρ xs b P → lcN p c f ρ xs b Q
  | [], _, _, _, h, z => h _ _ z
  | x :: xs, b, P, Q, h, ⟨ρ1, e, z⟩ => ⟨ρ1, e, c.m (fun k b1 y => by
      cases k with
      | true => exact f.m (fun d b2 y => lcN.mono (fun r b3 y => h _ _ y) y) y
      | false => exact lcN.mono h y) z⟩
def wLc (vs : List Nat) (it : WP (List D)) (p : Pat) (c : WP Bool) (f : WP D) : WP D := ⟨fun ρ b Q => it.w ρ b fun items b1 => lcN p c f (wipeR (shutR true ρ) vs) items b1 fun r b2 => Q (.list r) b2, fun h z => it.m (fun items b1 y => lcN.mono (fun r b2 y => h _ _ y) y) z⟩
theorem lcCoreN {g : Pl} {pr : Bool} {M0 : Addr → Prop} {H0 H1 : Hp} {σ : L2.St} {ρ : Rho} {b : Nat} {J : It} {items : List D} {p : Pat} {c : WP Bool} {f : WP D} {vs : List Nat} {D : Addr} {Qd : Hp → Prop} {P : List Dl.D → Nat → Prop}
    (R : Rn g M0 H0 H1 σ ρ b) (dw : ∀ M', (∀ a, M' a → Mu true M0 σ ρ a ∨ H1 a = none) → DW pr M' H1 J items) (hD : H1 D = none) (hp : p.fits pr = true) (hs : ∀ j, j ∈ slP p → j ∈ vs) (e : lcN p c f (wipeR (shutR true ρ) vs) items b P)
    (q : ∀ H acc res b', KpM g.own H1 H → g.inv b' H → H D = some (.lst acc) → acc.length ≤ sizeLine → RpAll (Mi true M0 σ ρ D) H acc res → P res b' → Qd H) :
    ∃ W : Nat → Nat → Hp → Prop, (∃ m, W 0 m (upd H1 D (.lst []))) ∧ ∀ i m H, W i m H →
      (J.stop i H ∧ Qd H) ∨ (J.go i H ∧ ∃ Nx : Hp → Prop, (∀ H', Nx H' → ∃ m', m' < m ∧ W (i + 1) m' H') ∧ ∀ x H', J.yld i H x H' → gP K p x (wipe σ vs) H' fun σ2 H2 => wipe σ2 vs = wipe σ vs ∧ tnT c σ2 H2 fun b H3 =>
        if b = true then tn f σ2 H3 fun y H4 => ∃ acc, H4 D = some (.lst acc) ∧ acc.length < sizeLine ∧ Nx (upd H4 D (.lst (acc ++ [y]))) else Nx H3) := by
  have dw := dw (Mi true M0 σ ρ D) fun a m => m.elim .inl fun z => .inr (by rw [z]; exact hD)
  have sz := dw.sz
  obtain ⟨G, Y, W, hG, hY⟩ := dw.ex
  have pI : ∀ {H H' : Hp}, KpM g.own H H' → KpM (Mi true M0 σ ρ D) H H' := fun k p o n e => k p o (fun z => n (.inl (.inl (R.pl p z)))) e
  have gD : ¬ g.own D := fun o => R.dom D (R.pl D o) hD
  refine lc_it W (fun i H => KpM g.own H1 H ∧ ∃ acc done b', H D = some (.lst acc) ∧ acc.length ≤ i ∧ g.inv b' H ∧ RpAll (Mi true M0 σ ρ D) H acc done ∧ lcN p c f (wipeR (shutR true ρ) vs) (items.drop i) b' fun r b3 => P (done ++ r) b3) ⟨.of (smN hD), [], [], b, upd_same, Nat.le_refl _, Pl.same R.iv (smN hD), .nil, e⟩ (fun i H hi h => hG H (pI h.1)) (fun i v H H' hi h y => ?_) (fun H h => ?_)
  · obtain ⟨sm, acc, done, b1, eD, la, iv, ra, er⟩ := h
    obtain ⟨d, ed, s2, rv⟩ := hY i v H H' (pI sm) y
    rw [drop_at ed] at er
    unfold lcN at er
    obtain ⟨ρ1, e1, er⟩ := er
    have Rin := R.inner hD (sm.tr (.of s2)) (Pl.same iv s2) (s2 _ _ eD) vs
    refine bindP.okN (pr := pr) Rin ?_ hp e1 fun σ2 R2 B2 => ⟨wipe_eq B2.oth B2.len hs, _, _, _, ρ1, b1, R2, c.m (fun k b2 er H3 k3 i3 => ?_) er⟩
    · rcases rv with rv | ⟨zp, a, xs, ds, z1, z2, z3, z4⟩
      · exact .inl (rv.reM fun a m => .inl (Mi.noOwn a m))
      · exact .inr ⟨zp, a, xs, ds, z1, z2, z3, z4.reM fun a m => .inl (Mi.noOwn a m)⟩
    have k23 : KpM g.own H H3 := (KpM.of s2).tr k3
    cases k with
    | true =>
      refine ⟨_, _, _, ρ1, b2, R2.up k3 i3, f.m (fun dv b3 er y H4 k4 i4 r4 => ?_) er⟩
      have k24 := k23.tr k4
      have eD4 := k24 _ _ gD eD
      have kp : KpM (Mi true M0 σ ρ D) H4 (upd H4 D (.lst (acc ++ [y]))) := fun q o n e => by
        rw [upd_ne (fun z => n (.inr z))]
        exact e
      have r4 : Rp (Mi true M0 σ ρ D) H4 y dv := r4.reM fun a m => .inl (.inl m)
      refine ⟨acc, eD4, by omega, fun q o n e => ?_, acc ++ [y], done ++ [dv], b3, upd_same, by rw [List.length_append]; simp; omega, g.loc i4 fun p o => upd_ne fun z => gD (by rw [← z]; exact o), ?_, lcN.mono (fun r b z => by rw [List.append_assoc]; exact z) er⟩
      · rw [upd_ne (ne_of_none e hD)]
        exact (sm.tr k24) _ _ n e
      · exact ((ra.mono (pI k24)).mono kp).app (.cons (r4.mono kp) .nil)
    | false =>
      exact ⟨sm.tr k23, acc, done, b2, k23 _ _ gD eD, by omega, i3, ra.mono (pI k23), er⟩
  · obtain ⟨sm, acc, done, b1, eD, la, iv, ra, er⟩ := h
    rw [List.drop_length] at er
    have er : P (done ++ []) b1 := er
    rw [List.append_nil] at er
    exact q H acc done b1 sm iv eD (by omega) ra er
def wYes : WP Bool := ⟨fun _ b Q => Q true b, fun h z => h _ _ z⟩
theorem nTs_nil : PTs X [] (tnT wYes) := pts_nil.wk fun σ H Q q => by
  obtain ⟨p, M0, H0, ρ, b, R, q⟩ := q
  exact q H .refl R.iv
theorem nLcE {it : WP (List D)} {p : Pat} {c : WP Bool} {f : WP D} {vs : List Nat} {pr : Bool} (hp : p.fits pr = true) (hs : ∀ j, j ∈ slP p → j ∈ vs) {σ : L2.St} {H : Hp} {Q : VK} (q : tn (wLc vs it p c f) σ H Q) : tLc (inn pr it) (gP K p) (tnT c) (tn f) vs σ H Q := by
  obtain ⟨g, M0, H0, ρ, b, R, q⟩ := q
  refine ⟨g, M0, H0, ρ, b, R, it.m (fun items b1 q J H1 k1 i1 dw D hD => ?_) q⟩
  exact lcCoreN (R.up k1 i1) dw hD hp hs q fun H2 acc res b2 k2 i2 eD la ra q => q _ _ (k1.tr k2) i2 (.lst eD (((R.up k1 i1).domu true).not hD) la (ra.reM fun a m => .inl (.inl m)))
/-- a new list, with draws -/
def tnN (f : WP D) : TE := fun σ H Q => ∃ g M0 H0 ρ b, Rn g M0 H0 H σ ρ b ∧ f.w ρ b fun d b' => ∃ ds, d = .list ds ∧ ∀ p vs H', H p = none → KpM g.own H H' → g.inv b' H' → H' p = some (.lst vs) → vs.length ≤ sizeLine → RpAll (Mi true M0 σ ρ p) H' vs ds → Q (.ref p) H'
theorem nLcN {it : WP (List D)} {p : Pat} {c : WP Bool} {f : WP D} {vs : List Nat} {pr : Bool} (hp : p.fits pr = true) (hs : ∀ j, j ∈ slP p → j ∈ vs) {σ : L2.St} {H : Hp} {Q : VK} (q : tnN (wLc vs it p c f) σ H Q) : tLc (inn pr it) (gP K p) (tnT c) (tn f) vs σ H Q := by
  obtain ⟨g, M0, H0, ρ, b, R, q⟩ := q
  refine ⟨g, M0, H0, ρ, b, R, it.m (fun items b1 q J H1 k1 i1 dw D hD => ?_) q⟩
  have nD : H D = none := by
    cases z : H D with
    | none => rfl
    | some o =>
      by_cases ow : g.own D
      · exact ((g.alive i1 ow) hD).elim
      · rw [k1 _ _ ow z] at hD; cases hD
  exact lcCoreN (R.up k1 i1) dw hD hp hs q fun H2 acc res b2 k2 i2 eD la ra ⟨ds, z, q⟩ => by
    cases z
    exact q D acc H2 nD (k1.tr k2) i2 eD la ra
end
end Dl
namespace Dl
open PySem PySem.Spec PyProof.Rows L2 Rt
/-! ### statements that draw -/
def PostN (g : Pl) (M0 : Addr → Prop) (H0 : Hp) (σ : L2.St) (ρ : Rho) (H : Hp) (Dn : Ends) : Out → Nat → Prop
  | .nx ρ', b => ∀ σ' H', Rn g M0 H0 H' σ' ρ' b → Stp M0 σ ρ H σ' ρ' H' → Dn.nx σ' H'
  | .rt d, b => ∀ v H', KpM g.own H0 H' → g.inv b H' → Rp M0 H' v d → Dn.rt v H'
  | .bk ρ', b => ∀ σ' H', Rn g M0 H0 H' σ' ρ' b → Stp M0 σ ρ H σ' ρ' H' → Dn.bk σ' H'
  | .ct ρ', b => ∀ σ' H', Rn g M0 H0 H' σ' ρ' b → Stp M0 σ ρ H σ' ρ' H' → Dn.ct σ' H'
theorem PostN.from {g : Pl} {M0 : Addr → Prop} {H0 : Hp} {σ σ1 : L2.St} {ρ ρ1 : Rho} {H H1 : Hp} {Dn : Ends} {o : Out} {b : Nat} (st : Stp M0 σ ρ H σ1 ρ1 H1) (p : PostN g M0 H0 σ ρ H Dn o b) : PostN g M0 H0 σ1 ρ1 H1 Dn o b := by
  cases o with
  | nx ρ' => exact fun σ' H' R s => p σ' H' R (st.trans s)
  | rt d => exact p
  | bk ρ' => exact fun σ' H' R s => p σ' H' R (st.trans s)
  | ct ρ' => exact fun σ' H' R s => p σ' H' R (st.trans s)
def tSn (f : WP Out) : TS := fun Dn σ H => ∃ g M0 H0 ρ b, Rn g M0 H0 H σ ρ b ∧ f.w ρ b fun o b' => PostN g M0 H0 σ ρ H Dn o b'
theorem Rn.stp {g : Pl} {M0 : Addr → Prop} {H0 H H' : Hp} {σ : L2.St} {ρ : Rho} {b : Nat} (R : Rn g M0 H0 H σ ρ b) (k : KpM g.own H H') : Stp M0 σ ρ H σ ρ H' := ⟨fun p o n e => k p o (fun z => n (.inl (R.pl p z))) e, fun p m => .inl m⟩
section
variable {X : Cx} {K : PySem.W.Frag}
def swAsg (p : Pat) (f : WP D) : WP Out := ⟨fun ρ b Q => f.w ρ b fun d b' => ∃ ρ1, bindP p d ρ = some ρ1 ∧ Q (.nx ρ1) b', fun h z => f.m (fun d b' ⟨ρ1, e, y⟩ => ⟨ρ1, e, h _ _ y⟩) z⟩
theorem nS_asg {st : Stmt} {p : Pat} {f : WP D} (h : PS X st (tAsg (tn f) (gP K p))) : PS X st (tSn (swAsg p f)) := h.wk fun Dn σ H q => by
  obtain ⟨g, M0, H0, ρ, b, R, q⟩ := q
  refine ⟨g, M0, H0, ρ, b, R, f.m (fun d b' ⟨ρ1, e1, q⟩ v H1 k1 i1 r1 => ?_) q⟩
  exact bindP.okN (pr := false) (R.up k1 i1) (.inl r1) (by cases p <;> rfl) e1 fun σ1 R1 B1 => q σ1 H1 R1 ((R.stp k1).trans ⟨.refl, fun p m => .inl (B1.mu p m)⟩)
def swRet (f : WP D) : WP Out := ⟨fun ρ b Q => f.w ρ b fun d b' => Q (.rt d) b', fun h z => f.m (fun d b' y => h _ _ y) z⟩
theorem nS_ret {st : Stmt} {f : WP D} (h : PS X st (tRet (tn f))) : PS X st (tSn (swRet f)) := h.wk fun Dn σ H q => by
  obtain ⟨g, M0, H0, ρ, b, R, q⟩ := q
  exact ⟨g, M0, H0, ρ, b, R, f.m (fun d b' q v H1 k1 i1 r1 => q v H1 (R.kp.tr k1) i1 (r1.reM Mu.lo)) q⟩
def swRetL (f : EF) : WP Out := ⟨fun ρ b Q => ∃ d, f (shutR false ρ) = some d ∧ Q (.rt d) b, fun h ⟨d, e, y⟩ => ⟨d, e, h _ _ y⟩⟩
theorem nS_retL {st : Stmt} {f : EF} {μ : Bool} (h : PS X st (tRet (tD μ f))) : PS X st (tSn (swRetL f)) := h.wk fun Dn σ H q => by
  obtain ⟨g, M0, H0, ρ, b, R, d, e, q⟩ := q
  exact ⟨_, H, _, d, R.rs false, e, fun v H1 s1 r1 => q v H1 (R.kp.tr (.of s1)) (Pl.same R.iv s1) (r1.reM fun a m => .inl (.inl (.inl m)))⟩
def swIf (c : WP Bool) (f g : WP Out) : WP Out := wIf c f g
theorem nS_if {c : Expr} {a b : List Stmt} {pos : Pos} {t : WP Bool} {f g : WP Out} (hc : PT X c (tnT t)) (ha : PSs X a (tSn f)) (hb : PSs X b (tSn g)) : PS X (.If c a b pos) (tSn (swIf t f g)) := (ps_if hc ha hb).wk fun Dn σ H q => by
  obtain ⟨p, M0, H0, ρ, b, R, q⟩ := q
  refine ⟨p, M0, H0, ρ, b, R, t.m (fun k b1 q H1 k1 i1 => ?_) q⟩
  cases k with
  | true => exact ⟨p, M0, H0, ρ, b1, R.up k1 i1, f.m (fun o b2 q => q.from (R.stp k1)) q⟩
  | false => exact ⟨p, M0, H0, ρ, b1, R.up k1 i1, g.m (fun o b2 q => q.from (R.stp k1)) q⟩
def swSeq (f g : WP Out) : WP Out := ⟨fun ρ b Q => f.w ρ b fun o b1 => match o with
  | .nx ρ' => g.w ρ' b1 Q
  | o => Q o b1, fun h z => f.m (fun o b1 y => by
    cases o with
    | nx ρ' => exact g.m h y
    | rt d => exact h _ _ y
    | bk ρ' => exact h _ _ y
    | ct ρ' => exact h _ _ y) z⟩
theorem nSs_cons {st : Stmt} {rest : List Stmt} {f g : WP Out} (h : PS X st (tSn f)) (hs : PSs X rest (tSn g)) : PSs X (st :: rest) (tSn (swSeq f g)) := (pss_cons h hs).wk fun Dn σ H q => by
  obtain ⟨p, M0, H0, ρ, b, R, q⟩ := q
  refine ⟨p, M0, H0, ρ, b, R, f.m (fun o b1 q => ?_) q⟩
  cases o with
  | nx ρ' => exact fun σ' H' R' s => ⟨p, M0, H0, ρ', b1, R', g.m (fun o b2 q => q.from s) q⟩
  | rt d => exact q
  | bk ρ' => exact q
  | ct ρ' => exact q
theorem nSs_one {st : Stmt} {f : WP Out} (h : PS X st (tSn f)) : PSs X [st] (tSn f) := pss_one h
def swNil : WP Out := ⟨fun ρ b Q => Q (.nx ρ) b, fun h z => h _ _ z⟩
theorem nSs_nil : PSs X [] (tSn swNil) := pss_nil.wk fun Dn σ H q => by
  obtain ⟨p, M0, H0, ρ, b, R, q⟩ := q
  exact q σ H R .refl
def forN (p : Pat) (body : WP Out) : List D → Rho → Nat → (Out → Nat → Prop) → Prop
  | [], ρ, b, Q => Q (.nx ρ) b
  | x :: xs, ρ, b, Q => ∃ ρ1, bindP p x ρ = some ρ1 ∧ body.w ρ1 b fun o b1 => match o with
    | .nx ρ2 => forN p body xs ρ2 b1 Q
    | .ct ρ2 => forN p body xs ρ2 b1 Q
    | .bk ρ2 => Q (.nx ρ2) b1
    | .rt d => Q (.rt d) b1
theorem forN.mono {p : Pat} {body : WP Out} : ∀ {xs : List D} {ρ : Rho} {b : Nat} {P Q : Out → Nat → Prop}, (∀ o b, P o b → Q o b) → forN p body xs ρ b P → forN p body xs ρ b Q
  | [], _, _, _, _, h, z => h _ _ z
  | x :: xs, ρ, b, P, Q, h, ⟨ρ1, e, z⟩ => ⟨ρ1, e, body.m (fun o b1 y => by
      cases o with
      | nx ρ2 => exact forN.mono h y
      | ct ρ2 => exact forN.mono h y
      | bk ρ2 => exact h _ _ y
      | rt d => exact h _ _ y) z⟩
def swFor (it : WP (List D)) (p : Pat) (body : WP Out) : WP Out := ⟨fun ρ b Q => it.w ρ b fun items b1 => forN p body items ρ b1 Q, fun h z => it.m (fun items b1 y => forN.mono h y) z⟩
theorem nFor {it : WP (List D)} {p : Pat} {body : WP Out} {pr : Bool} (hp : p.fits pr = true) {Dn : Ends} {σ : L2.St} {H : Hp} (q : tSn (swFor it p body) Dn σ H) : tFor (inn pr it) (gP K p) (tSn body) Dn σ H := by
  obtain ⟨g, M0, H0, ρ, b, R, q⟩ := q
  refine ⟨g, M0, H0, ρ, b, R, it.m (fun items b1 q J H1 k1 i1 dw => ⟨fun i m σ' H' => i ≤ items.length ∧ m = items.length - i ∧ ∃ ρ' b', Rn g M0 H0 H' σ' ρ' b' ∧ Stp M0 σ ρ H1 σ' ρ' H' ∧ forN p body (items.drop i) ρ' b' fun o b2 => PostN g M0 H0 σ ρ H Dn o b2, ⟨_, Nat.zero_le _, rfl, ρ, b1, R.up k1 i1, .refl, q⟩, ?_⟩) q⟩
  rintro i m σ' H' ⟨hi, rfl, ρ', b', R', st, e⟩
  have dw := dw (fun a => Mu true M0 σ' ρ' a ∨ Mu true M0 σ ρ a) fun a m => m.elim (st.ow a) .inl
  obtain ⟨G, Y, W, hG, hY⟩ := dw.ex
  have kp : KpM (fun a => Mu true M0 σ' ρ' a ∨ Mu true M0 σ ρ a) H1 H' := fun p o n e => st.kp p o (fun m => n (.inr m)) e
  have stA := (R.stp k1).trans st
  by_cases hlt : i < items.length
  · refine .inr ⟨W.goes i H' hlt (hG _ kp), fun σ3 H3 => ∃ ρ3 b3, Rn g M0 H0 H3 σ3 ρ3 b3 ∧ Stp M0 σ ρ H1 σ3 ρ3 H3 ∧ forN p body (items.drop (i + 1)) ρ3 b3 fun o b2 => PostN g M0 H0 σ ρ H Dn o b2, fun σ3 H3 h => ⟨items.length - (i + 1), by omega, hlt, rfl, h⟩, fun x Hb y => ?_⟩
    obtain ⟨d, ed, s2, rv⟩ := hY i x H' Hb kp (W.yields i H' x Hb hlt (hG _ kp) y)
    rw [drop_at ed] at e
    unfold forN at e
    obtain ⟨ρ1, e1, e⟩ := e
    refine bindP.okN (pr := pr) (R'.mono s2) ?_ hp e1 fun σ2 R2 B2 => ⟨g, M0, H0, ρ1, b', R2, body.m (fun o1 b2 e => ?_) e⟩
    · rcases rv with rv | ⟨zp, a, xs, ds, z1, z2, z3, z4⟩
      · exact .inl (rv.reM fun a m => .inl (.inl m))
      · exact .inr ⟨zp, a, xs, ds, z1, z2, z3, z4.reM fun a m => .inl (.inl m)⟩
    have st2 : Stp M0 σ' ρ' H' σ2 ρ1 Hb := ⟨.of s2, fun p m => .inl (B2.mu p m)⟩
    cases o1 with
    | nx ρ2 => exact fun σ3 H3 R3 s3 => ⟨ρ2, b2, R3, (st.trans st2).trans s3, e⟩
    | ct ρ2 => exact fun σ3 H3 R3 s3 => ⟨ρ2, b2, R3, (st.trans st2).trans s3, e⟩
    | bk ρ2 => exact fun σ3 H3 R3 s3 => (show PostN g M0 H0 σ ρ H Dn (.nx ρ2) b2 from e) σ3 H3 R3 ((stA.trans st2).trans s3)
    | rt d => exact e
  · have : i = items.length := by omega
    subst this
    rw [List.drop_length] at e
    exact .inl ⟨W.stops H' (hG _ kp), (show PostN g M0 H0 σ ρ H Dn (.nx ρ') b' from e) σ' H' R' stA⟩
theorem nS_for {st : Stmt} {it : WP (List D)} {p : Pat} {body : WP Out} {pr : Bool} (h : PS X st (tFor (inn pr it) (gP K p) (tSn body))) (hp : p.fits pr = true := by rfl) : PS X st (tSn (swFor it p body)) := h.wk fun Dn σ H q => nFor hp q
/-! lists of one's own -/
theorem Rn.ownSet {g : Pl} {M0 : Addr → Prop} {H0 H : Hp} {σ : L2.St} {ρ : Rho} {b : Nat} {i : Nat} {ds ds' : List D} {p : Addr} {vs vs' : List V} (R : Rn g M0 H0 H σ ρ b) (e : ρ[i]? = some (some (.own ds))) (es : σ[i]? = some (some (.ref p))) (eH : H p = some (.lst vs)) (l : vs'.length ≤ sizeLine) (r : RpAll (Mu true M0 σ ρ) H vs' ds') :
    Rn g M0 H0 (upd H p (.lst vs')) σ (ρ.set i (some (.own ds'))) b ∧ Stp M0 σ ρ H σ (ρ.set i (some (.own ds'))) (upd H p (.lst vs')) := by
  have hi : i < ρ.length := (List.getElem?_eq_some_iff.mp e).1
  have mp : Mu true M0 σ ρ p := .inr ⟨rfl, i, ds, e, es⟩
  have mu : ∀ a, Mu true M0 σ (ρ.set i (some (.own ds'))) a → Mu true M0 σ ρ a := fun a m => by
    rcases m with m | ⟨_, j, es', e1, e2⟩
    · exact .inl m
    · rcases set_get e1 with ⟨rfl, _⟩ | ⟨n, e1⟩
      · exact .inr ⟨rfl, i, ds, e, e2⟩
      · exact .inr ⟨rfl, j, es', e1, e2⟩
  have kp : KpM (Mu true M0 σ ρ) H (upd H p (.lst vs')) := fun a o n e => by
    rw [upd_ne (fun z => n (by rw [z]; exact mp))]
    exact e
  have h0 : H0 p = none := by
    obtain ⟨q, us, a, b, c, _⟩ := R.own i ds e
    rw [es] at a
    cases a
    exact c
  have np : ¬ M0 p := fun m => R.dom0 p m h0
  refine ⟨⟨fun a o n e => ?_, R.dom0, fun a m => ?_, R.pl, g.loc R.iv fun a o => upd_ne fun z => np (by rw [← z]; exact R.pl a o), by rw [List.length_set]; exact R.len, fun j d e1 => ?_, fun j es' e1 => ?_, fun j v e1 => ?_, fun j e1 => ?_, fun j k a b q e1 e2 e3 e4 => ?_⟩, kp, fun a m => .inl (mu a m)⟩
  · rw [upd_ne (fun z => by rw [z, h0] at e; cases e)]
    exact R.kp a o n e
  · rw [upd_ne (fun z => np (by rw [← z]; exact m))]
    exact R.dom a m
  · rcases set_get e1 with ⟨_, z⟩ | ⟨n, e1⟩
    · cases z
    · obtain ⟨v, a, b⟩ := R.dat j d e1
      exact ⟨v, a, (b.mono kp).reM fun a m => .inl (mu a m)⟩
  · rcases set_get e1 with ⟨rfl, z⟩ | ⟨n, e1⟩
    · cases z
      exact ⟨p, vs', es, upd_same, h0, l, (r.mono kp).reM fun a m => .inl (mu a m)⟩
    · obtain ⟨q, us, a, b, c, l', r'⟩ := R.own j es' e1
      refine ⟨q, us, a, ?_, c, l', (r'.mono kp).reM fun a m => .inl (mu a m)⟩
      rw [upd_ne (fun z => n (R.inj i j ds es' p e e1 es (by rw [← z]; exact a)))]
      exact b
  · rcases set_get e1 with ⟨_, z⟩ | ⟨n, e1⟩
    · cases z
    · exact R.raw j v e1
  · rcases set_get e1 with ⟨_, z⟩ | ⟨n, e1⟩
    · cases z
    · exact R.pool j e1
  · have f1 : ∃ a', ρ[j]? = some (some (.own a')) := by
      rcases set_get e1 with ⟨rfl, _⟩ | ⟨_, z⟩
      · exact ⟨ds, e⟩
      · exact ⟨a, z⟩
    have f2 : ∃ a', ρ[k]? = some (some (.own a')) := by
      rcases set_get e2 with ⟨rfl, _⟩ | ⟨_, z⟩
      · exact ⟨ds, e⟩
      · exact ⟨b, z⟩
    obtain ⟨a', f1⟩ := f1
    obtain ⟨b', f2⟩ := f2
    exact R.inj j k a' b' q f1 f2 e3 e4
theorem Rn.ownNew {g : Pl} {M0 : Addr → Prop} {H0 H H' : Hp} {σ : L2.St} {ρ : Rho} {b b' : Nat} {i : Nat} {ds : List D} {p : Addr} {vs : List V} (R : Rn g M0 H0 H σ ρ b) (hi : i < ρ.length) (np : H p = none) (k : KpM g.own H H') (iv : g.inv b' H') (eH : H' p = some (.lst vs)) (l : vs.length ≤ sizeLine) (r : RpAll (Mi true M0 σ ρ p) H' vs ds) :
    Rn g M0 H0 H' (σ.set i (some (.ref p))) (ρ.set i (some (.own ds))) b' ∧ Stp M0 σ ρ H (σ.set i (some (.ref p))) (ρ.set i (some (.own ds))) H' := by
  have mu : ∀ a, Mu true M0 (σ.set i (some (.ref p))) (ρ.set i (some (.own ds))) a → Mi true M0 σ ρ p a := fun a m => by
    rcases m with m | ⟨_, j, es', e1, e2⟩
    · exact .inl (.inl m)
    · rcases set_get e1 with ⟨rfl, _⟩ | ⟨n, e1⟩
      · rw [set_same (by rw [← R.len]; exact hi)] at e2
        cases e2
        exact .inr rfl
      · rw [set_other n] at e2
        exact .inl (.inr ⟨rfl, j, es', e1, e2⟩)
  have h0 : H0 p = none := by
    cases z : H0 p with
    | none => rfl
    | some o =>
      by_cases ow : g.own p
      · exact (R.dom p (R.pl p ow) np).elim
      · rw [R.kp _ _ ow z] at np; cases np
  have re : ∀ a, Mu true M0 (σ.set i (some (.ref p))) (ρ.set i (some (.own ds))) a → Mu true M0 σ ρ a ∨ H a = none := fun a m => by
    rcases mu a m with m | rfl
    · exact .inl m
    · exact .inr np
  have kp : KpM (Mu true M0 σ ρ) H H' := fun p o n e => k p o (fun z => n (.inl (R.pl p z))) e
  have kp2 : KpM (Mu true M0 (σ.set i (some (.ref p))) (ρ.set i (some (.own ds)))) H H' := fun p o n e => k p o (fun z => n (.inl (R.pl p z))) e
  have RU := R.up k iv
  refine ⟨⟨RU.kp, R.dom0, RU.dom, R.pl, iv, by rw [List.length_set, List.length_set]; exact R.len, fun j d e1 => ?_, fun j es' e1 => ?_, fun j v e1 => ?_, fun j e1 => ?_, fun j k a b q e1 e2 e3 e4 => ?_⟩, kp, re⟩
  · rcases set_get e1 with ⟨_, z⟩ | ⟨n, e1⟩
    · cases z
    · obtain ⟨v, a, b⟩ := R.dat j d e1
      exact ⟨v, by rw [set_other n]; exact a, (b.reM re).mono kp2⟩
  · rcases set_get e1 with ⟨rfl, z⟩ | ⟨n, e1⟩
    · cases z
      exact ⟨p, vs, set_same (by rw [← R.len]; exact hi), eH, h0, l, r.reM fun a m => .inl (mu a m)⟩
    · obtain ⟨q, us, a, b, c, l', r'⟩ := R.own j es' e1
      exact ⟨q, us, by rw [set_other n]; exact a, k _ _ (fun o => R.dom0 q (R.pl q o) c) b, c, l', (r'.reM re).mono kp2⟩
  · rcases set_get e1 with ⟨_, z⟩ | ⟨n, e1⟩
    · cases z
    · rw [set_other n]; exact R.raw j v e1
  · rcases set_get e1 with ⟨_, z⟩ | ⟨n, e1⟩
    · cases z
    · rw [set_other n]; exact R.pool j e1
  · have own : ∀ (m : Nat) (es : List D), ρ[m]? = some (some (.own es)) → σ[m]? = some (some (.ref q)) → q ≠ p := fun m es f1 f2 z => by
      obtain ⟨q', us, a, b, _⟩ := R.own m es f1
      rw [f2] at a
      cases a
      rw [z, np] at b
      cases b
    rcases set_get e1 with ⟨rfl, _⟩ | ⟨n1, f1⟩
    · rcases set_get e2 with ⟨rfl, _⟩ | ⟨n2, f2⟩
      · rfl
      · rw [set_same (by rw [← R.len]; exact hi)] at e3
        cases e3
        rw [set_other n2] at e4
        exact (own k b f2 e4 rfl).elim
    · rw [set_other n1] at e3
      rcases set_get e2 with ⟨rfl, _⟩ | ⟨n2, f2⟩
      · rw [set_same (by rw [← R.len]; exact hi)] at e4
        cases e4
        exact (own j a f1 e3 rfl).elim
      · rw [set_other n2] at e4
        exact R.inj j k a b q f1 f2 e3 e4
def swOwn (i : Nat) (f : WP D) : WP Out := ⟨fun ρ b Q => f.w ρ b fun d b' => ∃ ds, d = .list ds ∧ i < ρ.length ∧ Q (.nx (ρ.set i (some (.own ds)))) b', fun h z => f.m (fun d b' ⟨ds, e, l, y⟩ => ⟨ds, e, l, h _ _ y⟩) z⟩
theorem nS_own {st : Stmt} {i : Nat} {f : WP D} (h : PS X st (tAsg (tnN f) (gName i))) : PS X st (tSn (swOwn i f)) := h.wk fun Dn σ H q => by
  obtain ⟨g, M0, H0, ρ, b, R, q⟩ := q
  refine ⟨g, M0, H0, ρ, b, R, f.m (fun d b' ⟨ds, e, hi, q⟩ => ⟨ds, e, fun p vs H1 np k1 i1 eH l r => ?_⟩) q⟩
  obtain ⟨R1, s1⟩ := R.ownNew hi np k1 i1 eH l r
  exact q _ _ R1 s1
theorem nN_pure {e : Expr} {f : EF} (h : PE X e (tN f)) : PE X e (tnN (wP f)) := h.wk fun σ H Q q => by
  obtain ⟨g, M0, H0, ρ, b, R, d, e, ds, rfl, q⟩ := q
  refine ⟨_, H, _, ds, R.rs true, e, fun p vs H1 np s1 eH l r => q p vs H1 np (.of s1) (Pl.same R.iv s1) eH l (r.reM fun a m => ?_)⟩
  rcases m with m | rfl
  · exact .inl (.inl (.inl m))
  · exact .inl (.inr rfl)
theorem nN_lst {es : List Expr} {pos : Pos} {f : WP (List D)} (h : PA X es (tnA f)) : PE X (.List es pos) (tnN (wB f lstO)) := (pe_lst h).wk fun σ H Q q => by
  obtain ⟨g, M0, H0, ρ, b, R, q⟩ := q
  refine ⟨g, M0, H0, ρ, b, R, f.m (fun ds b1 ⟨d, e, ds', z, q⟩ vs H1 k1 i1 r1 => ?_) q⟩
  obtain ⟨l, rfl⟩ := iteS e
  cases z
  refine ⟨by rw [r1.len]; exact l, fun p np => q p vs _ ?_ (k1.tr (.of (smN np))) (Pl.same i1 (smN np)) upd_same (by rw [r1.len]; exact l) ((r1.reM fun a m => ?_).mono (.of (smN np)))⟩
  · cases z : H p with
    | none => rfl
    | some o =>
      by_cases ow : g.own p
      · exact (g.alive i1 ow np).elim
      · rw [k1 _ _ ow z] at np; cases np
  · rcases m with m | rfl
    · exact .inl m
    · exact .inr np
def swApp (i : Nat) (f : WP (List D)) : WP Out := ⟨fun ρ b Q => ∃ ds, ρ[i]? = some (some (.own ds)) ∧ f.w ρ b fun es b' => ∃ d, es = [d] ∧ ds.length < sizeLine ∧ Q (.nx (ρ.set i (some (.own (ds ++ [d]))))) b', fun h ⟨ds, e, z⟩ => ⟨ds, e, f.m (fun es b' ⟨d, e2, l, y⟩ => ⟨d, e2, l, h _ _ y⟩) z⟩⟩
theorem nS_app {st : Stmt} {i : Nat} {f : WP (List D)} (h : PS X st (tDrop (tBM K "list" rAppend (tVar i) (tnA f)))) : PS X st (tSn (swApp i f)) := h.wk fun Dn σ H q => by
  obtain ⟨g, M0, H0, ρ, b, R, ds, z, q⟩ := q
  obtain ⟨p, vs, a, c, h0, l, r⟩ := R.own i ds z
  refine ⟨.ref p, a, .inl ⟨rfl, _, SqL.of c⟩, g, M0, H0, ρ, b, R, f.m (fun es b1 ⟨d, e, l2, q⟩ us H1 k1 i1 r1 => ?_) q⟩
  subst e
  match us, r1 with
  | [u], .cons r1 .nil =>
    have hl : vs.length < sizeLine := by rw [r.len]; exact l2
    have c1 := k1 _ _ (fun o => R.dom0 p (R.pl p o) h0) c
    refine ⟨p, vs, _, rfl, rfl, c1, hl, ?_⟩
    obtain ⟨R1, S1⟩ := (R.up k1 i1).ownSet z a c1 (vs' := vs ++ [u]) (by rw [List.length_append]; exact hl) ((r.mono fun p o n e => k1 p o (fun z => n (.inl (R.pl p z))) e).app (.cons r1 .nil))
    exact q _ _ R1 ((R.stp k1).trans S1)
def swDrop (f : WP D) : WP Out := ⟨fun ρ b Q => f.w ρ b fun _ b' => Q (.nx ρ) b', fun h z => f.m (fun d b' y => h _ _ y) z⟩
theorem nS_expr {st : Stmt} {f : WP D} (h : PS X st (tDrop (tn f))) : PS X st (tSn (swDrop f)) := h.wk fun Dn σ H q => by
  obtain ⟨g, M0, H0, ρ, b, R, q⟩ := q
  exact ⟨g, M0, H0, ρ, b, R, f.m (fun d b' q v H1 k1 i1 r1 => q σ H1 (R.up k1 i1) (R.stp k1)) q⟩
end
/-! ### a def that draws -/
def startP (n : Nat) (ds : List D) : Rho := some .pool :: (ds.map (fun d => some (.dat d)) ++ List.replicate (n - (ds.length + 1)) none)
theorem RpAll.startN {g : Pl} {M : Addr → Prop} {H : Hp} {N : List Str} {vs : List V} {ds : List D} {b : Nat} (dm : Dom M H) (pl : ∀ p, g.own p → M p) (iv : g.inv b H) (r : RpAll M H vs ds) : Rn g M H H (L2.start N (g.h :: vs)) (startP N.length ds) b := by
  have get : ∀ (i : Nat) (x : LV), (startP N.length ds)[i]? = some (some x) → (i = 0 ∧ x = .pool) ∨ ∃ j d, i = j + 1 ∧ ds[j]? = some d ∧ x = .dat d := fun i x e => by
    cases i with
    | zero => cases e; exact .inl ⟨rfl, rfl⟩
    | succ j =>
      have e : (ds.map (fun d => some (LV.dat d)) ++ List.replicate (N.length - (ds.length + 1)) none)[j]? = some (some x) := e
      rw [List.getElem?_append] at e
      split at e
      · rw [List.getElem?_map] at e
        cases z : ds[j]? with
        | none => rw [z] at e; cases e
        | some d => rw [z] at e; cases e; exact .inr ⟨j, d, rfl, z, rfl⟩
      · rw [List.getElem?_replicate] at e
        split at e <;> cases e
  have mu : ∀ a, Mu true M (L2.start N (g.h :: vs)) (startP N.length ds) a → M a ∨ H a = none := fun a m => by
    rcases m with m | ⟨_, j, es, e, _⟩
    · exact .inl m
    · rcases get j _ e with ⟨_, z⟩ | ⟨_, _, _, _, z⟩ <;> cases z
  refine ⟨.refl, dm, dm, pl, iv, ?_, fun i d e => ?_, fun i es e => ?_, fun i v e => ?_, fun i e => ?_, fun i j a b p e => ?_⟩
  · unfold startP L2.start
    simp [r.len]
  · rcases get i _ e with ⟨_, z⟩ | ⟨j, d', rfl, ed, z⟩
    · cases z
    · cases z
      obtain ⟨v, a, b⟩ := r.get ed
      refine ⟨v, ?_, b.reM mu⟩
      unfold L2.start
      rw [List.map_cons, List.cons_append, List.getElem?_cons_succ, List.getElem?_append, if_pos (by rw [List.length_map]; exact (List.getElem?_eq_some_iff.mp a).1), List.getElem?_map, a]
      rfl
  · rcases get i _ e with ⟨_, z⟩ | ⟨_, _, _, _, z⟩ <;> cases z
  · rcases get i _ e with ⟨_, z⟩ | ⟨_, _, _, _, z⟩ <;> cases z
  · rcases get i _ e with ⟨rfl, _⟩ | ⟨_, _, _, _, z⟩
    · rfl
    · cases z
  · rcases get i _ e with ⟨_, z⟩ | ⟨_, _, _, _, z⟩ <;> cases z
def TellsN (Q : D → Nat → Prop) : Out → Nat → Prop
  | .rt d, b => Q d b
  | .nx _, b => Q .none b
  | _, _ => False
theorem okFnN {P : Program} {w : World} {K : PySem.W.Frag} {mg : Str → Option Value} {base : Heap} {x qual : Str} {st : Stmt} {f : Addr} {fd : FuncData} {N ps : List Str} {k n : Nat} {F0 : GF} (F : Fun K x qual st f fd) (S : FnScope N ps (defScope st)) (hn : n + 1 = ps.length)
    (walk : ∀ (cdv : Value) (A : Around) (outer : List Env) (s : Shared) (H : Hp) (E : XK), Room k (A.deeper (envOfC qual (defScope st) s.heap.objs.size f cdv)) →
      ∃ fS, PSs (cxOf CX0 P w K mg base N qual (defScope st) f cdv A outer s H E).nox (defBody st) (tSn fS) ∧ ∀ ds b Q, ds.length = n → F0.f ds b Q → fS.w (startP N.length ds) b (TellsN Q)) :
    FnOk P w K mg base CX0 (k + 1) f fd ps (spN n F0) := by
  refine F.ok S (fun vs H Q E h => ?_) (fun cdv A outer s H vs Q E hr h => ?_)
  · obtain ⟨g, M, ws, ds, b, rfl, _, _, _, r, l, _⟩ := h
    rw [← hn, ← l, ← r.len]
    rfl
  · obtain ⟨g, M, ws, ds, b, rfl, pl, dm, iv, r, l, q⟩ := h
    obtain ⟨fS, hS, hw⟩ := walk cdv A outer s H E hr
    refine ⟨_, hS, g, M, H, _, b, r.startN dm pl iv, fS.m (fun o b' t => ?_) (hw ds b _ l q)⟩
    cases o with
    | nx ρ' => exact fun σ' H' R s => (show ∀ v H', KpM g.own H H' → g.inv b' H' → Rp M H' v .none → Q v H' from t) _ _ R.kp R.iv .non
    | rt d' => exact t
    | bk ρ' => exact t.elim
    | ct ρ' => exact t.elim
end Dl
namespace Dl
open PySem PySem.Spec PyProof.Rows L2 Rt
theorem u65 {k : Nat} {A : Around} (r : Room k A) : A.units + 65 < cLine := by
  have := r.un
  omega
section
variable {X : Cx} {K : PySem.W.Frag}
theorem dE_lc {e : Expr} {it : Rho → Option (List D)} {p : Pat} {c : Rho → Option Bool} {f : EF} {vs : List Nat} {μ μi pr : Bool} (h : PE X e (tLc (iD μ pr it) (gP K p) (tT c) (tD μi f) vs)) (hp : p.fits pr = true := by rfl) (hs : ∀ j, j ∈ slP p → j ∈ vs := by decide) : PE X e (tD μ (eLc μ vs it p c f)) := h.wk fun _ _ _ q => dLc hp hs q
theorem dS_lc {st : Stmt} {i : Nat} {it : Rho → Option (List D)} {p : Pat} {c : Rho → Option Bool} {f : EF} {vs : List Nat} {μi pr : Bool} (h : PS X st (tAsg (tLc (iD true pr it) (gP K p) (tT c) (tD μi f) vs) (gName i))) (hp : p.fits pr = true := by rfl) (hs : ∀ j, j ∈ slP p → j ∈ vs := by decide) : PS X st (tS (sAsg (.nm i) (eLc true vs it p c f))) :=
  dS_asg (K := K) (h.wk fun Dn σ H q => dLc hp hs q)
theorem oS_lc {st : Stmt} {i : Nat} {it : Rho → Option (List D)} {p : Pat} {c : Rho → Option Bool} {f : EF} {vs : List Nat} {μi pr : Bool} (h : PS X st (tAsg (tLc (iD true pr it) (gP K p) (tT c) (tD μi f) vs) (gName i))) (hp : p.fits pr = true := by rfl) (hs : ∀ j, j ∈ slP p → j ∈ vs := by decide) : PS X st (tS (sOwn i (eLc true vs it p c f))) :=
  dS_own (h.wk fun Dn σ H q => nLc hp hs q)
theorem nE_lc {e : Expr} {it : WP (List D)} {p : Pat} {c : WP Bool} {f : WP D} {vs : List Nat} {pr : Bool} (h : PE X e (tLc (inn pr it) (gP K p) (tnT c) (tn f) vs)) (hp : p.fits pr = true := by rfl) (hs : ∀ j, j ∈ slP p → j ∈ vs := by decide) : PE X e (tn (wLc vs it p c f)) := h.wk fun _ _ _ q => nLcE hp hs q
theorem nS_lc {st : Stmt} {i : Nat} {it : WP (List D)} {p : Pat} {c : WP Bool} {f : WP D} {vs : List Nat} {pr : Bool} (h : PS X st (tAsg (tLc (inn pr it) (gP K p) (tnT c) (tn f) vs) (gName i))) (hp : p.fits pr = true := by rfl) (hs : ∀ j, j ∈ slP p → j ∈ vs := by decide) : PS X st (tSn (swAsg (.nm i) (wLc vs it p c f))) :=
  nS_asg (K := K) (h.wk fun Dn σ H q => nLcE hp hs q)
theorem nO_lc {st : Stmt} {i : Nat} {it : WP (List D)} {p : Pat} {c : WP Bool} {f : WP D} {vs : List Nat} {pr : Bool} (h : PS X st (tAsg (tLc (inn pr it) (gP K p) (tnT c) (tn f) vs) (gName i))) (hp : p.fits pr = true := by rfl) (hs : ∀ j, j ∈ slP p → j ∈ vs := by decide) : PS X st (tSn (swOwn i (wLc vs it p c f))) :=
  nS_own (h.wk fun Dn σ H q => nLcN hp hs q)
theorem nE_callB {x : Str} {p pos : Pos} {e : Expr} {es : List Expr} {id : String} {g : List D → Option D} {f : WP (List D)} (c : CallR X (.builtin id) (rC g)) (hg : Gl X x) (hm : X.mg x = none) (hv : bootBuiltins x = some (.builtin id)) (ha : PA X (e :: es) (tnA f))
    (hn : x ≠ "__name__" := by decide) (hdb : (x == ("__debug__" : Str)) = false := by decide) (he : starEach (e :: es) X.env = (false, eval e X.env) :: starEach es X.env := by rfl) (hpl : (backTo pos (starEach es X.env)).any (·.1) = false := by rfl) :
    PE X (.Call (.Name x p) (e :: es) [] pos) (tn (wB f g)) := (pe_callB c hg hm hv ha hn hdb he hpl).wk fun _ _ _ q => nCall q
theorem nE_callTy {x : Str} {p pos : Pos} {e : Expr} {es : List Expr} {T : String} {g : List D → Option D} {f : WP (List D)} (c : CallR X (.type T) (rC g)) (hg : Gl X x) (hm : X.mg x = none) (hv : bootBuiltins x = some (.type T)) (ha : PA X (e :: es) (tnA f))
    (hn : x ≠ "__name__" := by decide) (hdb : (x == ("__debug__" : Str)) = false := by decide) (he : starEach (e :: es) X.env = (false, eval e X.env) :: starEach es X.env := by rfl) (hpl : (backTo pos (starEach es X.env)).any (·.1) = false := by rfl) :
    PE X (.Call (.Name x p) (e :: es) [] pos) (tn (wB f g)) := (pe_callTy c hg hm hv ha hn hdb he hpl).wk fun _ _ _ q => nCall q
/-- x = x + e, both lists, x one's own -/
def eCat (i : Nat) (f : EF) : EF := fun ρ => match ρ[i]? with
  | some (some (.own ds)) => (f ρ).bind fun d => match d with
    | .list es => if ds.length + es.length ≤ sizeLine then some (.list (ds ++ es)) else none
    | _ => none
  | _ => none
theorem oE_cat {a b : Expr} {pos : Pos} {i : Nat} {f : EF} (ha : PE X a (tVar i)) (hb : PE X b (tD true f)) : PE X (.BinOp a .Add b pos) (tN (eCat i f)) := (pe_op op_cat ha hb).wk fun σ H Q q => by
  obtain ⟨M0, H0, ρ, es, R, e, q⟩ := q
  unfold eCat at e
  split at e
  · rename_i ds z
    obtain ⟨d, ed, e⟩ := some_bind e
    obtain ⟨p, vs, a, b, c, l, r⟩ := R.own i ds z
    refine ⟨.ref p, a, M0, H0, ρ, d, R, ed, fun v H1 s1 r1 => ?_⟩
    cases r1 <;> try (cases e; done)
    rename_i t n l1 r1
    obtain ⟨l2, e3⟩ := iteS e
    cases e3
    refine ⟨_, _, _, _, rfl, rfl, s1 _ _ b, t, by rw [r.len, r1.len]; exact l2, fun p2 hp2 => q p2 _ _ ?_ (s1.trans (smN hp2)) upd_same (by rw [List.length_append, r.len, r1.len]; exact l2) ?_⟩
    · cases z : H p2 with
      | none => rfl
      | some o => rw [s1 _ _ z] at hp2; cases hp2
    · have k : ∀ a, Mi true M0 σ ρ p2 a → Mu true M0 σ ρ a ∨ ‹Hp› a = none := fun a m => by
        rcases m with m | rfl
        · exact .inl m
        · exact .inr hp2
      exact (((r.mono (.of s1)).reM k).mono (.of (smN hp2))).app ((r1.reM k).mono (.of (smN hp2)))
  · cases e
def wCat (i : Nat) (f : WP D) : WP D := ⟨fun ρ b Q => ∃ ds, ρ[i]? = some (some (.own ds)) ∧ f.w ρ b fun d b' => ∃ es, d = .list es ∧ ds.length + es.length ≤ sizeLine ∧ Q (.list (ds ++ es)) b', fun h ⟨ds, e, z⟩ => ⟨ds, e, f.m (fun d b' ⟨es, e1, l, y⟩ => ⟨es, e1, l, h _ _ y⟩) z⟩⟩
theorem nO_cat {a b : Expr} {pos : Pos} {i : Nat} {f : WP D} (ha : PE X a (tVar i)) (hb : PE X b (tn f)) : PE X (.BinOp a .Add b pos) (tnN (wCat i f)) := (pe_op op_cat ha hb).wk fun σ H Q q => by
  obtain ⟨g, M0, H0, ρ, b, R, ds, z, q⟩ := q
  obtain ⟨p, vs, a, c, h0, l, r⟩ := R.own i ds z
  refine ⟨.ref p, a, g, M0, H0, ρ, b, R, f.m (fun d b1 ⟨es, e1, l2, q⟩ v H1 k1 i1 r1 => ?_) q⟩
  obtain ⟨es', e3, q⟩ := q
  cases e3
  subst e1
  cases r1 with
  | lst t n l1 r1 =>
    have c1 := k1 _ _ (fun o => R.dom0 p (R.pl p o) h0) c
    refine ⟨_, _, _, _, rfl, rfl, c1, t, by rw [r.len, r1.len]; exact l2, fun p2 hp2 => q p2 _ _ ?_ (k1.tr (.of (smN hp2))) (Pl.same i1 (smN hp2)) upd_same (by rw [List.length_append, r.len, r1.len]; exact l2) ?_⟩
    · cases z : H p2 with
      | none => rfl
      | some o =>
        by_cases ow : g.own p2
        · exact (g.alive i1 ow hp2).elim
        · rw [k1 _ _ ow z] at hp2; cases hp2
    · have k : ∀ a, Mi true M0 σ ρ p2 a → Mu true M0 σ ρ a ∨ H1 a = none := fun a m => by
        rcases m with m | rfl
        · exact .inl m
        · exact .inr hp2
      exact (((r.mono fun p o n e => k1 p o (fun z => n (.inl (R.pl p z))) e).reM k).mono (.of (smN hp2))).app ((r1.reM k).mono (.of (smN hp2)))
def sPar (i j : Nat) (f : Rho → Option (List D)) : Rho → Option Out := fun ρ => (f ρ).bind fun ds => match ds with
  | [a, b] => some (.nx ((ρ.set i (some (.dat a))).set j (some (.dat b))))
  | _ => none
theorem dS_par {st : Stmt} {i j : Nat} {f : Rho → Option (List D)} (h : PS X st (tPar i j (tA true f))) : PS X st (tS (sPar i j f)) := h.wk fun Dn σ H q => by
  obtain ⟨M0, H0, ρ, o, R, e, q⟩ := tS_iff.mp q
  obtain ⟨ds, ed, e⟩ := some_bind e
  refine ⟨M0, H0, ρ, ds, R, ed, fun vs H1 s1 r1 => ?_⟩
  match ds, vs, r1, e with
  | [a, b], [v, w], .cons ra (.cons rb .nil), e =>
    cases e
    have sh : ∀ a', Mu true M0 (σ.set i (some v)) (ρ.set i (some (.dat a))) a' → Mu true M0 σ ρ a' := Mu.shrink fun ds e => by cases e
    have R1 := (R.mono s1).set (i := i) ra
    have R2 := R1.set (i := j) (rb.reM fun a m => .inl (sh a m))
    refine ⟨v, w, rfl, q _ _ R2 ((Stp.of s1).trans ⟨.refl, fun p m => .inl (sh p (Mu.shrink (fun ds e => by cases e) p m))⟩)⟩
def swPar (i j : Nat) (f : WP (List D)) : WP Out := ⟨fun ρ b Q => f.w ρ b fun ds b' => ∃ x y, ds = [x, y] ∧ Q (.nx ((ρ.set i (some (.dat x))).set j (some (.dat y)))) b', fun h z => f.m (fun ds b' ⟨x, y, e, w⟩ => ⟨x, y, e, h _ _ w⟩) z⟩
theorem nS_par {st : Stmt} {i j : Nat} {f : WP (List D)} (h : PS X st (tPar i j (tnA f))) : PS X st (tSn (swPar i j f)) := h.wk fun Dn σ H q => by
  obtain ⟨g, M0, H0, ρ, b, R, q⟩ := q
  refine ⟨g, M0, H0, ρ, b, R, f.m (fun ds b1 ⟨x, y, e, q⟩ vs H1 k1 i1 r1 => ?_) q⟩
  subst e
  match vs, r1 with
  | [v, w], .cons ra (.cons rb .nil) =>
    have sh : ∀ a', Mu true M0 (σ.set i (some v)) (ρ.set i (some (.dat x))) a' → Mu true M0 σ ρ a' := Mu.shrink fun ds e => by cases e
    have R1 := (R.up k1 i1).set (i := i) ra
    have R2 := R1.set (i := j) (rb.reM fun a m => .inl (sh a m))
    refine ⟨v, w, rfl, q _ _ R2 ((R.stp k1).trans ⟨.refl, fun p m => .inl (sh p (Mu.shrink (fun ds e => by cases e) p m))⟩)⟩
/-- a def of a pool's family in the layer's words -/
theorem _root_.L2.FnOk.wk {P : Program} {w : World} {mg : Str → Option Value} {base : Heap} {k : Nat} {f : Addr} {fd : FuncData} {ps : List Str} {sp sp' : Sp} (F : FnOk P w K mg base CX0 k f fd ps sp) (m : ∀ vs H Q E, sp' vs H Q E → sp vs H Q E) : FnOk P w K mg base CX0 k f fd ps sp' :=
  ⟨fun vs H Q E h => F.len vs H Q E (m _ _ _ _ h), fun A outer s H args us vs Q E room e b v h => F.run A outer s H args us vs Q E room e b v (m _ _ _ _ h)⟩
end
end Dl
namespace Dl
open PySem PySem.Spec PyProof.Rows L2 Rt
/-! ### going through a body, step by step -/
theorem ev_guard {c : Rho → Option Bool} {e : EF} {g : Rho → Option Out} {ρ : Rho} {b : Bool} {d : D} (hc : c ρ = some b) (he : e ρ = some d) : sSeq (sIf c (sRet e) sNil) g ρ = if b = true then some (.rt d) else g ρ := by
  unfold sSeq sIf
  rw [hc]
  cases b with
  | true =>
    show ((sRet e ρ).bind _) = _
    unfold sRet
    rw [he]
    rfl
  | false => rfl
theorem ev_if {c : Rho → Option Bool} {f h g : Rho → Option Out} {ρ : Rho} {b : Bool} (hc : c ρ = some b) : sSeq (sIf c f h) g ρ = if b = true then sSeq f g ρ else sSeq h g ρ := by
  unfold sSeq sIf
  rw [hc]
  cases b <;> rfl
theorem ev_nil {g : Rho → Option Out} {ρ : Rho} : sSeq sNil g ρ = g ρ := rfl
theorem ev_retS {e : EF} {g : Rho → Option Out} {ρ : Rho} {d : D} (he : e ρ = some d) : sSeq (sRet e) g ρ = some (.rt d) := by
  unfold sSeq sRet
  rw [he]
  rfl
theorem ev_asg {p : Pat} {f : EF} {g : Rho → Option Out} {ρ ρ' : Rho} {d : D} (hf : f ρ = some d) (hb : bindP p d ρ = some ρ') : sSeq (sAsg p f) g ρ = g ρ' := by
  unfold sSeq sAsg
  rw [hf]
  show ((bindP p d ρ).map Out.nx).bind _ = _
  rw [hb]
  rfl
theorem ev_seq {f g : Rho → Option Out} {ρ ρ' : Rho} (hf : f ρ = some (.nx ρ')) : sSeq f g ρ = g ρ' := by
  unfold sSeq
  rw [hf]
  rfl
theorem ev_seqR {f g : Rho → Option Out} {ρ : Rho} {d : D} (hf : f ρ = some (.rt d)) : sSeq f g ρ = some (.rt d) := by
  unfold sSeq
  rw [hf]
  rfl
theorem ev_ret {e : EF} {ρ : Rho} {d : D} (he : e ρ = some d) : sRet e ρ = some (.rt d) := by
  unfold sRet
  rw [he]
  rfl
theorem ev_ifR {c : Rho → Option Bool} {f h : Rho → Option Out} {ρ : Rho} {b : Bool} (hc : c ρ = some b) : sIf c f h ρ = if b = true then f ρ else h ρ := by
  unfold sIf
  rw [hc]
  rfl
/-- a loop whose body tells of each item whether to go on -/
theorem ev_for {p : Pat} {body : Rho → Option Out} {t : D → Option D} (I : Rho → Prop) (hb : ∀ x ρ, I ρ → ∃ ρ1, bindP p x ρ = some ρ1 ∧ ((t x = none ∧ ∃ ρ2, I ρ2 ∧ body ρ1 = some (.nx ρ2)) ∨ ∃ d, t x = some d ∧ body ρ1 = some (.rt d))) :
    ∀ (xs : List D) (ρ : Rho), I ρ → (∃ ρ', I ρ' ∧ xs.findSome? t = none ∧ forGo p body xs ρ = some (.nx ρ')) ∨ ∃ d, xs.findSome? t = some d ∧ forGo p body xs ρ = some (.rt d)
  | [], ρ, i => .inl ⟨ρ, i, rfl, rfl⟩
  | x :: xs, ρ, i => by
    obtain ⟨ρ1, e1, h⟩ := hb x ρ i
    rcases h with ⟨ht, ρ2, i2, e2⟩ | ⟨d, ht, e2⟩
    · rcases ev_for I hb xs ρ2 i2 with ⟨ρ', i', e3, e4⟩ | ⟨d, e3, e4⟩
      · refine .inl ⟨ρ', i', by rw [List.findSome?_cons, ht]; exact e3, ?_⟩
        unfold forGo
        rw [e1]
        show (body ρ1).bind _ = _
        rw [e2]
        exact e4
      · refine .inr ⟨d, by rw [List.findSome?_cons, ht]; exact e3, ?_⟩
        unfold forGo
        rw [e1]
        show (body ρ1).bind _ = _
        rw [e2]
        exact e4
    · refine .inr ⟨d, by rw [List.findSome?_cons, ht], ?_⟩
      unfold forGo
      rw [e1]
      show (body ρ1).bind _ = _
      rw [e2]
      rfl
/-- a comprehension that tells one thing of each item -/
theorem ev_lc {i : Nat} {f : EF} {ρ : Rho} {t : D → D} (hi : i < ρ.length) : ∀ (xs : List D), (∀ x ∈ xs, f (ρ.set i (some (.dat x))) = some (t x)) → lcGo (.nm i) oYes f ρ xs = some (xs.map t)
  | [], _ => rfl
  | x :: xs, h => by
    unfold lcGo bindP
    rw [if_pos hi]
    show (f (ρ.set i (some (.dat x)))).bind _ = _
    rw [h x (by simp)]
    show (lcGo _ _ _ _ xs).map _ = _
    rw [ev_lc hi xs fun y hy => h y (by simp [hy])]
    rfl
/-- .. and picks -/
theorem ev_lcIf {i : Nat} {c : Rho → Option Bool} {f : EF} {ρ : Rho} {k : D → Bool} {t : D → D} (hi : i < ρ.length) : ∀ (xs : List D), (∀ x ∈ xs, c (ρ.set i (some (.dat x))) = some (k x)) → (∀ x ∈ xs, k x = true → f (ρ.set i (some (.dat x))) = some (t x)) → lcGo (.nm i) c f ρ xs = some ((xs.filter k).map t)
  | [], _, _ => rfl
  | x :: xs, h, h2 => by
    unfold lcGo bindP
    rw [if_pos hi]
    show (c (ρ.set i (some (.dat x)))).bind _ = _
    rw [h x (by simp)]
    show (if k x = true then _ else _) = _
    have ih := ev_lcIf hi xs (fun y hy => h y (by simp [hy])) (fun y hy => h2 y (by simp [hy]))
    cases e : k x with
    | true =>
      rw [if_pos rfl, h2 x (by simp) e]
      show (lcGo _ _ _ _ xs).map _ = _
      rw [ih, List.filter_cons_of_pos e]
      rfl
    | false =>
      rw [if_neg (by simp), ih, List.filter_cons_of_neg (by simp [e])]
theorem bools_map {α : Type} (t : α → Bool) : ∀ xs : List α, boolsD (xs.map fun x => .bool (t x)) = some (xs.map t)
  | [] => rfl
  | x :: xs => by
    show (boolsD (xs.map fun x => .bool (t x))).map _ = _
    rw [bools_map t xs]
    rfl
theorem okD_all : ∀ (ds : List D), PyData.canLayAll0 ds = true → PyData.depthAll ds + 1 ≤ 64 → PyData.hasDictAll ds = false → ∀ d ∈ ds, okD d = true
  | [], _, _, _ => fun d m => nomatch m
  | x :: xs, c, dp, hd => by
    have c2 := Bool.and_eq_true_iff.mp (show (x.canLay0 && PyData.canLayAll0 xs) = true from c)
    have hd2 := Bool.or_eq_false_iff.mp (show (x.hasDict || PyData.hasDictAll xs) = false from hd)
    have dp2 : max x.depth (PyData.depthAll xs) + 1 ≤ 64 := dp
    intro d m
    rcases List.mem_cons.mp m with e | e
    · subst e
      unfold okD SeqAt.shaped
      rw [hd2.1, c2.1]
      have : d.depth ≤ 64 := by omega
      simp [this]
    · exact okD_all xs c2.2 (by omega) hd2.2 d e
theorem okD.tup {ds : List D} (h : okD (.tuple ds) = true) : ∀ d ∈ ds, okD d = true := by
  obtain ⟨h1, h2⟩ := okD.parts h
  have h2 := Bool.and_eq_true_iff.mp h2
  exact okD_all ds h2.1 (of_decide_eq_true h2.2) h1
theorem dep_all : ∀ (ds : List D) (n : Nat), PyData.depthAll ds ≤ n → ∀ d ∈ ds, d.depth ≤ n
  | [], _, _ => fun d m => nomatch m
  | x :: xs, n, h => by
    have h : max x.depth (PyData.depthAll xs) ≤ n := h
    intro d m
    rcases List.mem_cons.mp m with e | e
    · subst e; omega
    · exact dep_all xs n (by omega) d e
theorem okD.tupD {ds : List D} (h : okD (.tuple ds) = true) : ∀ d ∈ ds, okD d = true ∧ d.depth ≤ 63 := fun d m => by
  refine ⟨okD.tup h d m, ?_⟩
  obtain ⟨_, h2⟩ := okD.parts h
  have h2 := Bool.and_eq_true_iff.mp h2
  have h3 : PyData.depthAll ds + 1 ≤ 64 := of_decide_eq_true h2.2
  exact dep_all ds 63 (by omega) d m
theorem okAll : ∀ (ds : List D), (∀ d ∈ ds, okD d = true ∧ d.depth ≤ 63) → PyData.canLayAll0 ds = true ∧ PyData.depthAll ds ≤ 63 ∧ PyData.hasDictAll ds = false
  | [], _ => ⟨rfl, Nat.zero_le _, rfl⟩
  | x :: xs, h => by
    obtain ⟨a, b, c⟩ := okAll xs fun d m => h d (by simp [m])
    obtain ⟨o, dx⟩ := h x (by simp)
    obtain ⟨o1, o2⟩ := okD.parts o
    have o2 := Bool.and_eq_true_iff.mp o2
    refine ⟨Bool.and_eq_true_iff.mpr ⟨o2.1, a⟩, ?_, Bool.or_eq_false_iff.mpr ⟨o1, c⟩⟩
    show max x.depth (PyData.depthAll xs) ≤ 63
    omega
theorem okL {ds : List D} (h : ∀ d ∈ ds, okD d = true ∧ d.depth ≤ 63) : okD (.list ds) = true := by
  obtain ⟨a, b, c⟩ := okAll ds h
  unfold okD SeqAt.shaped
  rw [show (PyData.list ds).hasDict = PyData.hasDictAll ds from rfl, c, show (PyData.list ds).canLay0 = PyData.canLayAll0 ds from rfl, a, show (PyData.list ds).depth = PyData.depthAll ds + 1 from rfl]
  have : PyData.depthAll ds + 1 ≤ 64 := by omega
  simp [this]
theorem okT {ds : List D} (h : ∀ d ∈ ds, okD d = true ∧ d.depth ≤ 63) : okD (.tuple ds) = true := by
  obtain ⟨a, b, c⟩ := okAll ds h
  unfold okD SeqAt.shaped
  rw [show (PyData.tuple ds).hasDict = PyData.hasDictAll ds from rfl, c, show (PyData.tuple ds).canLay0 = PyData.canLayAll0 ds from rfl, a, show (PyData.tuple ds).depth = PyData.depthAll ds + 1 from rfl]
  have : PyData.depthAll ds + 1 ≤ 64 := by omega
  simp [this]
theorem ok_int (i : Int) : okD (.int i) = true ∧ (PyData.int i).depth ≤ 63 := ⟨rfl, Nat.zero_le _⟩
theorem ok_nil : okD (.list []) = true := okL fun d m => nomatch m
theorem nin_tup {a : D} {ds : List D} (h : okD a = true) (h2 : okD (.tuple ds) = true) : ninD a (.tuple ds) = some (.bool (!ds.any fun z => PyData.eqv z a)) := by
  cases a <;> simp [ninD, h, h2]
theorem in_tup {a : D} {ds : List D} (h : okD a = true) (h2 : okD (.tuple ds) = true) : inD a (.tuple ds) = some (.bool (ds.any fun z => PyData.eqv z a)) := by
  cases a <;> simp [inD, h, h2]
theorem eq_ok {a b : D} (h : okD a = true) (h2 : okD b = true) : eqD a b = some (.bool (PyData.eqv a b)) := by
  simp [eqD, h, h2]
theorem ne_ok {a b : D} (h : okD a = true) (h2 : okD b = true) : neD a b = some (.bool (!PyData.eqv a b)) := by
  simp [neD, h, h2]
theorem add_tup {a b : List D} (h : a.length + b.length ≤ sizeLine) : addD (.tuple a) (.tuple b) = some (.tuple (a ++ b)) := by
  show (if a.length + b.length ≤ sizeLine then some (PyData.tuple (a ++ b)) else none) = _
  rw [if_pos h]
theorem add_lst {a b : List D} (h : a.length + b.length ≤ sizeLine) : addD (.list a) (.list b) = some (.list (a ++ b)) := by
  show (if a.length + b.length ≤ sizeLine then some (PyData.list (a ++ b)) else none) = _
  rw [if_pos h]
theorem ev_call {n : Nat} {g : List D → Option D} {f : Rho → Option (List D)} {ρ : Rho} {ds : List D} {d : D} (hf : f ρ = some ds) (hl : ds.length = n) (hg : g ds = some d) : eCall (gN n g) f ρ = some d := by
  unfold eCall gN
  rw [hf]
  show (if ds.length = n then g ds else none) = _
  rw [if_pos hl, hg]
theorem ev_and {f g : EF} {ρ : Rho} {b : Bool} {d : D} (hf : f ρ = some (.bool b)) (hg : b = true → g ρ = some d) (h0 : b = false → d = .bool false) : eAnd f g ρ = some d := by
  unfold eAnd
  rw [hf]
  cases b with
  | true => exact hg rfl
  | false => rw [h0 rfl]; rfl
theorem ev_oOr {f g : Rho → Option Bool} {ρ : Rho} {b : Bool} (hf : f ρ = some b) : oOr f g ρ = if b = true then some true else g ρ := by
  unfold oOr
  rw [hf]
  rfl
theorem ev_oAnd {f g : Rho → Option Bool} {ρ : Rho} {b : Bool} (hf : f ρ = some b) : oAnd f g ρ = if b = true then g ρ else some false := by
  unfold oAnd
  rw [hf]
  rfl
theorem ev_not {f : Rho → Option Bool} {ρ : Rho} {b : Bool} (hf : f ρ = some b) : oNot f ρ = some (!b) := by
  unfold oNot
  rw [hf]
  rfl
theorem ev_oB {f : EF} {ρ : Rho} {b : Bool} (hf : f ρ = some (.bool b)) : oB f ρ = some b := by
  unfold oB
  rw [hf]
  rfl
theorem ev_lcE {μ : Bool} {vs : List Nat} {it : Rho → Option (List D)} {p : Pat} {c : Rho → Option Bool} {f : EF} {ρ : Rho} {items res : List D} (hit : it ρ = some items) (hl : lcGo p c f (wipeR (shutR μ ρ) vs) items = some res) : eLc μ vs it p c f ρ = some (.list res) := by
  unfold eLc
  rw [hit]
  show (lcGo p c f (wipeR (shutR μ ρ) vs) items).map PyData.list = _
  rw [hl]
  rfl
theorem ev_all {μ : Bool} {vs : List Nat} {it : Rho → Option (List D)} {p : Pat} {c : Rho → Option Bool} {f : EF} {ρ : Rho} {items : List D} {α : Type} {xs : List α} {t : α → Bool} (hit : it ρ = some items) (hl : lcGo p c f (wipeR (shutR μ ρ) vs) items = some (xs.map fun x => .bool (t x))) : eCall allD (aCons (eLc μ vs it p c f) aNil) ρ = some (.bool (xs.all t)) := by
  unfold eCall aCons
  rw [ev_lcE hit hl]
  show (boolsD _).map _ = _
  rw [bools_map]
  show some (PyData.bool _) = _
  rw [List.all_map]
  rfl
theorem ev_any {μ : Bool} {vs : List Nat} {it : Rho → Option (List D)} {p : Pat} {c : Rho → Option Bool} {f : EF} {ρ : Rho} {items : List D} {α : Type} {xs : List α} {t : α → Bool} (hit : it ρ = some items) (hl : lcGo p c f (wipeR (shutR μ ρ) vs) items = some (xs.map fun x => .bool (t x))) : eCall anyD (aCons (eLc μ vs it p c f) aNil) ρ = some (.bool (xs.any t)) := by
  unfold eCall aCons
  rw [ev_lcE hit hl]
  show (boolsD _).map _ = _
  rw [bools_map]
  show some (PyData.bool _) = _
  rw [List.any_map]
  rfl
end Dl
namespace Dl
open PySem PySem.Spec PyProof.Rows L2 Rt
theorem ev_e2 {g : D → D → Option D} {f1 f2 : EF} {ρ : Rho} {a b d : D} (h1 : f1 ρ = some a) (h2 : f2 ρ = some b) (hg : g a b = some d) : e2 g f1 f2 ρ = some d := by
  unfold e2
  rw [h1]
  show (f2 ρ).bind _ = _
  rw [h2]
  exact hg
theorem ev_itG {g : List D → Option (List D)} {f : Rho → Option (List D)} {ρ : Rho} {ds r : List D} (hf : f ρ = some ds) (hg : g ds = some r) : itG g f ρ = some r := by
  unfold itG
  rw [hf]
  exact hg
theorem ran2_ok {i j : Int} (h1 : -(2 ^ 62) ≤ i) (h2 : i < 2 ^ 62) (h3 : -(2 ^ 62) ≤ j) (h4 : j < 2 ^ 62) (h5 : j - i < 2 ^ 20) : ran2D [.int i, .int j] = some (rgD i (j - i).toNat) := if_pos ⟨h1, h2, h3, h4, h5⟩
theorem ran1_ok {j : Int} (h3 : -(2 ^ 62) ≤ j) (h5 : j < 2 ^ 20) : ran1D [.int j] = some (rgD 0 j.toNat) := if_pos ⟨h3, h5⟩
theorem ev_forC {p : Pat} {body : Rho → Option Out} {x : D} {xs : List D} {ρ ρ1 ρ2 : Rho} (e1 : bindP p x ρ = some ρ1) (e2 : body ρ1 = some (.nx ρ2)) : forGo p body (x :: xs) ρ = forGo p body xs ρ2 := by
  show (bindP p x ρ).bind _ = _
  rw [e1]
  show (body ρ1).bind _ = _
  rw [e2]
  rfl
theorem ev_forR {p : Pat} {body : Rho → Option Out} {x : D} {xs : List D} {ρ ρ1 : Rho} {d : D} (e1 : bindP p x ρ = some ρ1) (e2 : body ρ1 = some (.rt d)) : forGo p body (x :: xs) ρ = some (.rt d) := by
  show (bindP p x ρ).bind _ = _
  rw [e1]
  show (body ρ1).bind _ = _
  rw [e2]
  rfl
theorem ev_forS {it : Rho → Option (List D)} {p : Pat} {body : Rho → Option Out} {ρ : Rho} {items : List D} {o : Option Out} (hit : it ρ = some items) (h : forGo p body items ρ = o) : sFor it p body ρ = o := by
  unfold sFor
  rw [hit]
  exact h
end Dl
namespace Dl
open PySem PySem.Spec PyProof.Rows L2 Rt
theorem sub_dict_str : isSubtype (.type "dict") (.type "str") = pure false := by
  rw [isSubtype_type]
  rfl
theorem sub_str_dict : isSubtype (.type "str") (.type "dict") = pure false := by
  rw [isSubtype_type]
  rfl
theorem str_eq_no_dict (b : Str) (u : Tok) (l : Addr) (o : Obj) (es : Array DictEntry) (n : Nat) (hc : o.cls = .type "dict") (hd : o.data = .dict es n) : Meets (Builtin.«str.__eq__» { pos := [.str b u, .ref l] }) fun _ R s => s.heap.get? l = some o ∧ R (.ok (.ret .notImplemented)) s :=
  Meets.of_wp fun prog w A R s h => by
    obtain ⟨hp, g, d, tk, os⟩ := s
    obtain ⟨hl, h⟩ := h
    obtain ⟨cls, dd, dat, sl⟩ := o
    cases hc
    cases hd
    unfold Builtin.«str.__eq__»
    refine wpAny_bind (wpAny_bind ?_)
    unfold slotArgs
    refine wpAny_ite_false rfl (wpAny_ite_false rfl (wpAny_pure (wpAny_bind ?_)))
    unfold Builtin.Str.textOf
    refine wpAny_bind (wpAny_pure (wpAny_pure (wpAny_pure (wpAny_bind ?_))))
    unfold asStr?
    refine wpAny_bind (wpAny_load hl (wpAny_pure (wpAny_bind (wpAny_rule (wpAny_pure ⟨_, rfl, h⟩)))))
theorem dict_eq_no_str (b : Str) (u : Tok) (l : Addr) (o : Obj) (es : Array DictEntry) (n : Nat) (hc : o.cls = .type "dict") (hd : o.data = .dict es n) : Meets (Builtin.«dict.__eq__» { pos := [.ref l, .str b u] }) fun _ R s => s.heap.get? l = some o ∧ R (.ok (.ret .notImplemented)) s :=
  Meets.of_wp fun prog w A R s h => by
    obtain ⟨hp, g, d, tk, os⟩ := s
    obtain ⟨hl, h⟩ := h
    obtain ⟨cls, dd, dat, sl⟩ := o
    cases hc
    cases hd
    unfold Builtin.«dict.__eq__»
    refine wpAny_bind ?_
    unfold Builtin.Dict.dictSlotArgs
    refine wpAny_bind ?_
    unfold Builtin.Dict.notOrdered
    refine wpAny_ite_false rfl (wpAny_pure (wpAny_bind ?_))
    unfold slotArgs
    refine wpAny_ite_false rfl (wpAny_ite_false rfl (wpAny_pure (wpAny_pure (wpAny_bind ?_))))
    unfold isInstance
    refine wpAny_bind (wpAny_pure (wpAny_of_eq sub_str_dict (wpAny_ite_true rfl (wpAny_bind (wpAny_rule (wpAny_pure ⟨_, rfl, h⟩))))))
theorem rc_str_dict {A : Around} {s : Shared} {l : Addr} {o : Obj} {es : Array DictEntry} {n : Nat} (b : Str) (u : Tok) (ho : s.heap.get? l = some o) (hc : o.cls = .type "dict") (hd : o.data = .dict es n) (hu : A.units < cLine) : SeqAt.RcAt A s (.str b u) (.ref l) false := fun prog w E Q h =>
  SeqAt.rc_eq_decline_or (typeIs_str s b u) ⟨o, ho, hc⟩ (by decide) sub_dict_str F.slot_str_eq F.slot_dict_eq_refl
    (fun _ hq => call_meets F.slot_str_eq (typeIs_str s b u) F.entry_str_eq (F.args_str_eq_2 _ _) (str_eq_no_dict b u l o es n hc hd) ⟨ho, hq⟩)
    (fun _ hq => call_meets F.slot_dict_eq_refl ⟨o, ho, hc⟩ F.entry_dict_eq (F.args_dict_eq_2 _ _) (dict_eq_no_str b u l o es n hc hd) ⟨ho, hq⟩)
    (fun _ hq => wpAny_of_eq rfl hq) (.inr hu) h
theorem eqAt_str_dict {A : Around} {s : Shared} {l : Addr} {o : Obj} {es : Array DictEntry} {n : Nat} (b : Str) (u : Tok) (ho : s.heap.get? l = some o) (hc : o.cls = .type "dict") (hd : o.data = .dict es n) (hu : A.units < cLine) : SeqAt.EqAt A s (.str b u) (.ref l) false := fun prog w E Q h =>
  wpAny_holding (wpAny_ite_split (fun e => absurd (eq_of_beq e) (fun a => nomatch a)) fun _ => wpAny_bind (rc_str_dict b u ho hc hd hu prog w E (fun a s' => wpAny (model prog w) A (truthOfDropped a) Q E s') (wpAny_truthy_bool h)))
end Dl
namespace Dl
open PySem PySem.Spec PyProof.Rows L2 Rt
theorem sub_int_dict : isSubtype (.type "int") (.type "dict") = pure false := by rw [isSubtype_type]; rfl
theorem sub_bool_dict : isSubtype (.type "bool") (.type "dict") = pure false := by rw [isSubtype_type]; rfl
theorem sub_none_dict : isSubtype (.type "NoneType") (.type "dict") = pure false := by rw [isSubtype_type]; rfl
theorem sub_list_dict : isSubtype (.type "list") (.type "dict") = pure false := by rw [isSubtype_type]; rfl
theorem sub_tuple_dict : isSubtype (.type "tuple") (.type "dict") = pure false := by rw [isSubtype_type]; rfl
theorem sub_dict_int : isSubtype (.type "dict") (.type "int") = pure false := by rw [isSubtype_type]; rfl
theorem sub_dict_bool : isSubtype (.type "dict") (.type "bool") = pure false := by rw [isSubtype_type]; rfl
theorem sub_dict_none : isSubtype (.type "dict") (.type "NoneType") = pure false := by rw [isSubtype_type]; rfl
theorem sub_dict_list : isSubtype (.type "dict") (.type "list") = pure false := by rw [isSubtype_type]; rfl
theorem sub_dict_tuple : isSubtype (.type "dict") (.type "tuple") = pure false := by rw [isSubtype_type]; rfl
theorem dict_eq_no {x : Value} {T : String} (hT : isSubtype (.type T) (.type "dict") = pure false) (l : Addr) : Meets (Builtin.«dict.__eq__» { pos := [.ref l, x] }) fun _ R s => s.TypeIs x T ∧ R (.ok (.ret .notImplemented)) s :=
  Meets.of_wp fun prog w A R s h => by
    obtain ⟨hl, h⟩ := h
    unfold Builtin.«dict.__eq__»
    refine wpAny_bind ?_
    unfold Builtin.Dict.dictSlotArgs
    refine wpAny_bind ?_
    unfold Builtin.Dict.notOrdered
    refine wpAny_ite_false rfl (wpAny_pure (wpAny_bind ?_))
    unfold slotArgs
    refine wpAny_ite_false rfl (wpAny_ite_false rfl (wpAny_pure (wpAny_pure (wpAny_bind ?_))))
    unfold isInstance
    refine wpAny_bind (wpAny_typeOf hl (wpAny_of_eq hT (wpAny_ite_true rfl (wpAny_bind (wpAny_rule (wpAny_pure ⟨_, rfl, h⟩))))))
theorem list_eq_no (l q : Addr) (o : Obj) (hc : o.cls = .type "dict") : Meets (Builtin.«list.__eq__» { pos := [.ref q, .ref l] }) fun _ R s => s.heap.get? l = some o ∧ R (.ok (.ret .notImplemented)) s :=
  Meets.of_wp fun prog w A R s h => by
    obtain ⟨hl, h⟩ := h
    have hl : s.TypeIs (.ref l) "dict" := ⟨o, hl, hc⟩
    unfold Builtin.«list.__eq__»
    refine wpAny_bind ?_
    unfold slotArgs
    refine wpAny_ite_false rfl (wpAny_ite_false rfl (wpAny_pure (wpAny_bind ?_)))
    unfold isInstance
    exact wpAny_bind (wpAny_typeOf hl (wpAny_of_eq sub_dict_list (wpAny_ite_true rfl (wpAny_pure ⟨_, rfl, h⟩))))
theorem tuple_eq_no (l q : Addr) (o : Obj) (hc : o.cls = .type "dict") : Meets (Builtin.«tuple.__eq__» { pos := [.ref q, .ref l] }) fun _ R s => s.heap.get? l = some o ∧ R (.ok (.ret .notImplemented)) s :=
  Meets.of_wp fun prog w A R s h => by
    obtain ⟨hl, h⟩ := h
    have hl : s.TypeIs (.ref l) "dict" := ⟨o, hl, hc⟩
    unfold Builtin.«tuple.__eq__»
    refine wpAny_bind ?_
    unfold slotArgs
    refine wpAny_ite_false rfl (wpAny_ite_false rfl (wpAny_pure (wpAny_bind ?_)))
    unfold isInstance
    exact wpAny_bind (wpAny_typeOf hl (wpAny_of_eq sub_dict_tuple (wpAny_ite_true rfl (wpAny_pure ⟨_, rfl, h⟩))))
theorem int_eq_no (i : Int) (t : Tok) (l : Addr) (o : Obj) (es : Array DictEntry) (n : Nat) (hd : o.data = .dict es n) : Meets (Builtin.«int.__eq__» { pos := [.int i t, .ref l] }) fun _ R s => s.heap.get? l = some o ∧ R (.ok (.ret .notImplemented)) s :=
  Meets.of_wp fun prog w A R s h => by
    obtain ⟨hp, g, d, tk, os⟩ := s
    obtain ⟨hl, h⟩ := h
    obtain ⟨cls, dd, dat, sl⟩ := o
    cases hd
    unfold Builtin.«int.__eq__»
    refine wpAny_bind ?_
    unfold slotArgs
    refine wpAny_ite_false rfl (wpAny_ite_false rfl (wpAny_pure (wpAny_bind ?_)))
    unfold Builtin.Int.intOfSelf
    refine wpAny_bind (wpAny_pure (wpAny_pure (wpAny_bind ?_)))
    unfold asInt?
    exact wpAny_bind (wpAny_load hl (wpAny_pure (wpAny_bind (wpAny_rule (wpAny_pure ⟨_, rfl, h⟩)))))
theorem bool_eq_no (i : Bool) (l : Addr) (o : Obj) (es : Array DictEntry) (n : Nat) (hd : o.data = .dict es n) : Meets (Builtin.«int.__eq__» { pos := [.bool i, .ref l] }) fun _ R s => s.heap.get? l = some o ∧ R (.ok (.ret .notImplemented)) s :=
  Meets.of_wp fun prog w A R s h => by
    obtain ⟨hp, g, d, tk, os⟩ := s
    obtain ⟨hl, h⟩ := h
    obtain ⟨cls, dd, dat, sl⟩ := o
    cases hd
    unfold Builtin.«int.__eq__»
    refine wpAny_bind ?_
    unfold slotArgs
    refine wpAny_ite_false rfl (wpAny_ite_false rfl (wpAny_pure (wpAny_bind ?_)))
    unfold Builtin.Int.intOfSelf
    refine wpAny_bind (wpAny_pure (wpAny_pure (wpAny_bind ?_)))
    unfold asInt?
    exact wpAny_bind (wpAny_load hl (wpAny_pure (wpAny_bind (wpAny_rule (wpAny_pure ⟨_, rfl, h⟩)))))
end Dl
namespace Dl
open PySem PySem.Spec PyProof.Rows L2 Rt
structure IsDic (s : Shared) (l : Addr) (o : Obj) (es : Array DictEntry) (n : Nat) : Prop where
  get : s.heap.get? l = some o
  cls : o.cls = .type "dict"
  dat : o.data = .dict es n
theorem IsDic.ty {s : Shared} {l : Addr} {o : Obj} {es : Array DictEntry} {n : Nat} (h : IsDic s l o es n) : s.TypeIs (.ref l) "dict" := ⟨o, h.get, h.cls⟩
section
variable {A : Around} {s : Shared} {l : Addr} {o : Obj} {es : Array DictEntry} {n : Nat}
theorem tyL {q : Addr} {items : Array Value} (h : s.heap.IsList q items) : s.TypeIs (.ref q) "list" := by
  obtain ⟨o, g, c, _⟩ := h
  exact ⟨o, g, c⟩
theorem tyT {q : Addr} {items : Array Value} (h : s.heap.IsTuple q items) : s.TypeIs (.ref q) "tuple" := by
  obtain ⟨o, g, c, _⟩ := h
  exact ⟨o, g, c⟩
theorem ne_of_ty {q l : Addr} {T U : String} (h : s.TypeIs (.ref q) T) (k : s.TypeIs (.ref l) U) (n : Value.type T ≠ .type U) : q ≠ l := by
  rintro rfl
  obtain ⟨o, g, c⟩ := h
  obtain ⟨o', g', c'⟩ := k
  rw [g] at g'
  cases g'
  exact n (c.symm.trans c')
theorem isSame_dic {M : Model} {E : Value → Shared → Prop} {q : Addr} {T : String} {Q : Bool → Shared → Prop} (h : IsDic s l o es n) (t : s.TypeIs (.ref q) T) (n' : Value.type T ≠ .type "dict") (hq : Q false s) : wpAny M A (isSame (.ref l) (.ref q)) Q E s := by
  have hne := ne_of_ty h.ty t n'.symm
  obtain ⟨o2, g2, c2⟩ := t
  exact wpAny_isSame_ref_other hne h.get g2 (by rw [h.cls]; decide) hq
theorem dic_isSame {M : Model} {E : Value → Shared → Prop} {q : Addr} {T : String} {Q : Bool → Shared → Prop} (h : IsDic s l o es n) (t : s.TypeIs (.ref q) T) (n' : Value.type T ≠ .type "dict") (hq : Q false s) : wpAny M A (isSame (.ref q) (.ref l)) Q E s := by
  have hne := ne_of_ty t h.ty n'
  obtain ⟨o2, g2, c2⟩ := t
  obtain ⟨g1, c1, d1⟩ := h
  obtain ⟨cls, dd, dat, sl⟩ := o
  cases c1
  cases d1
  obtain ⟨cls, dd, dat, sl⟩ := o2
  cases c2
  unfold isSame
  refine wpAny_ite_false (decide_eq_false fun e => hne (eq_of_beq e)) (wpAny_bind (wpAny_load g2 (wpAny_bind (wpAny_load g1 ?_))))
  split
  · rename_i e _ _
    exact absurd (show Value.type "dict" = Value.type "tuple" from e) (by decide)
  · exact wpAny_pure hq
theorem rc_int_dic (i : Int) (t : Tok) (h : IsDic s l o es n) (hu : A.units < cLine) : SeqAt.RcAt A s (.int i t) (.ref l) false := fun prog w E Q hQ =>
  SeqAt.rc_eq_decline_or (typeIs_int s i t) h.ty (by decide) sub_dict_int F.slot_int_eq F.slot_dict_eq_refl
    (fun _ hq => call_meets F.slot_int_eq (typeIs_int s i t) F.entry_int_eq (F.args_int_eq_2 _ _) (int_eq_no i t l o es n h.dat) ⟨h.get, hq⟩)
    (fun _ hq => call_meets F.slot_dict_eq_refl h.ty F.entry_dict_eq (F.args_dict_eq_2 _ _) (dict_eq_no sub_int_dict l) ⟨(typeIs_int s i t), hq⟩)
    (fun _ hq => wpAny_of_eq rfl hq) (.inr hu) hQ
theorem rc_dic_int (i : Int) (t : Tok) (h : IsDic s l o es n) (hu : A.units < cLine) : SeqAt.RcAt A s (.ref l) (.int i t) false := fun prog w E Q hQ =>
  SeqAt.rc_eq_decline_or h.ty (typeIs_int s i t) (by decide) sub_int_dict F.slot_dict_eq F.slot_int_eq_refl
    (fun _ hq => call_meets F.slot_dict_eq h.ty F.entry_dict_eq (F.args_dict_eq_2 _ _) (dict_eq_no sub_int_dict l) ⟨(typeIs_int s i t), hq⟩)
    (fun _ hq => call_meets F.slot_int_eq_refl (typeIs_int s i t) F.entry_int_eq (F.args_int_eq_2 _ _) (int_eq_no i t l o es n h.dat) ⟨h.get, hq⟩)
    (fun _ hq => wpAny_of_eq rfl hq) (.inr hu) hQ
theorem rc_bool_dic (i : Bool) (h : IsDic s l o es n) (hu : A.units < cLine) : SeqAt.RcAt A s (.bool i) (.ref l) false := fun prog w E Q hQ =>
  SeqAt.rc_eq_decline_or rfl h.ty (by decide) sub_dict_bool F.slot_bool_eq F.slot_dict_eq_refl
    (fun _ hq => call_meets F.slot_bool_eq rfl F.entry_int_eq (F.args_int_eq_2 _ _) (bool_eq_no i l o es n h.dat) ⟨h.get, hq⟩)
    (fun _ hq => call_meets F.slot_dict_eq_refl h.ty F.entry_dict_eq (F.args_dict_eq_2 _ _) (dict_eq_no sub_bool_dict l) ⟨rfl, hq⟩)
    (fun _ hq => wpAny_of_eq rfl hq) (.inr hu) hQ
theorem rc_dic_bool (i : Bool) (h : IsDic s l o es n) (hu : A.units < cLine) : SeqAt.RcAt A s (.ref l) (.bool i) false := fun prog w E Q hQ =>
  SeqAt.rc_eq_decline_or h.ty rfl (by decide) sub_bool_dict F.slot_dict_eq F.slot_bool_eq_refl
    (fun _ hq => call_meets F.slot_dict_eq h.ty F.entry_dict_eq (F.args_dict_eq_2 _ _) (dict_eq_no sub_bool_dict l) ⟨rfl, hq⟩)
    (fun _ hq => call_meets F.slot_bool_eq_refl rfl F.entry_int_eq (F.args_int_eq_2 _ _) (bool_eq_no i l o es n h.dat) ⟨h.get, hq⟩)
    (fun _ hq => wpAny_of_eq rfl hq) (.inr hu) hQ
theorem rc_str_dic (i : Str) (t : Tok) (h : IsDic s l o es n) (hu : A.units < cLine) : SeqAt.RcAt A s (.str i t) (.ref l) false := fun prog w E Q hQ =>
  SeqAt.rc_eq_decline_or (typeIs_str s i t) h.ty (by decide) sub_dict_str F.slot_str_eq F.slot_dict_eq_refl
    (fun _ hq => call_meets F.slot_str_eq (typeIs_str s i t) F.entry_str_eq (F.args_str_eq_2 _ _) (str_eq_no_dict i t l o es n h.cls h.dat) ⟨h.get, hq⟩)
    (fun _ hq => call_meets F.slot_dict_eq_refl h.ty F.entry_dict_eq (F.args_dict_eq_2 _ _) (dict_eq_no sub_str_dict l) ⟨(typeIs_str s i t), hq⟩)
    (fun _ hq => wpAny_of_eq rfl hq) (.inr hu) hQ
theorem rc_dic_str (i : Str) (t : Tok) (h : IsDic s l o es n) (hu : A.units < cLine) : SeqAt.RcAt A s (.ref l) (.str i t) false := fun prog w E Q hQ =>
  SeqAt.rc_eq_decline_or h.ty (typeIs_str s i t) (by decide) sub_str_dict F.slot_dict_eq F.slot_str_eq_refl
    (fun _ hq => call_meets F.slot_dict_eq h.ty F.entry_dict_eq (F.args_dict_eq_2 _ _) (dict_eq_no sub_str_dict l) ⟨(typeIs_str s i t), hq⟩)
    (fun _ hq => call_meets F.slot_str_eq_refl (typeIs_str s i t) F.entry_str_eq (F.args_str_eq_2 _ _) (str_eq_no_dict i t l o es n h.cls h.dat) ⟨h.get, hq⟩)
    (fun _ hq => wpAny_of_eq rfl hq) (.inr hu) hQ
theorem rc_none_dic  (h : IsDic s l o es n) (hu : A.units < cLine) : SeqAt.RcAt A s (.none) (.ref l) false := fun prog w E Q hQ =>
  SeqAt.rc_eq_decline_or rfl h.ty (by decide) sub_dict_none F.slot_NoneType_eq F.slot_dict_eq_refl
    (fun _ hq => call_gives F.slot_NoneType_eq rfl F.entry_NoneType_eq (F.args_NoneType_eq_2 _ _) (SeqAt.NoneType___eq___none_ref_0 l) hq)
    (fun _ hq => call_meets F.slot_dict_eq_refl h.ty F.entry_dict_eq (F.args_dict_eq_2 _ _) (dict_eq_no sub_none_dict l) ⟨rfl, hq⟩)
    (fun _ hq => wpAny_of_eq rfl hq) (.inr hu) hQ
theorem rc_dic_none  (h : IsDic s l o es n) (hu : A.units < cLine) : SeqAt.RcAt A s (.ref l) (.none) false := fun prog w E Q hQ =>
  SeqAt.rc_eq_decline_or h.ty rfl (by decide) sub_none_dict F.slot_dict_eq F.slot_NoneType_eq_refl
    (fun _ hq => call_meets F.slot_dict_eq h.ty F.entry_dict_eq (F.args_dict_eq_2 _ _) (dict_eq_no sub_none_dict l) ⟨rfl, hq⟩)
    (fun _ hq => call_gives F.slot_NoneType_eq_refl rfl F.entry_NoneType_eq (F.args_NoneType_eq_2 _ _) (SeqAt.NoneType___eq___none_ref_0 l) hq)
    (fun _ hq => wpAny_of_eq rfl hq) (.inr hu) hQ
theorem rc_list_dic {q : Addr} {items : Array Value} (hq0 : s.heap.IsList q items) (h : IsDic s l o es n) (hu : A.units < cLine) : SeqAt.RcAt A s (.ref q) (.ref l) false := fun prog w E Q hQ =>
  SeqAt.rc_eq_decline_or (tyL hq0) h.ty (by decide) sub_dict_list F.slot_list_eq F.slot_dict_eq_refl
    (fun _ hq => call_meets F.slot_list_eq (tyL hq0) F.entry_list_eq (F.args_list_eq_2 _ _) (list_eq_no l q o h.cls) ⟨h.get, hq⟩)
    (fun _ hq => call_meets F.slot_dict_eq_refl h.ty F.entry_dict_eq (F.args_dict_eq_2 _ _) (dict_eq_no sub_list_dict l) ⟨(tyL hq0), hq⟩)
    (fun _ hq => dic_isSame h (tyL hq0) (by decide) hq) (.inr hu) hQ
theorem rc_dic_list {q : Addr} {items : Array Value} (hq0 : s.heap.IsList q items) (h : IsDic s l o es n) (hu : A.units < cLine) : SeqAt.RcAt A s (.ref l) (.ref q) false := fun prog w E Q hQ =>
  SeqAt.rc_eq_decline_or h.ty (tyL hq0) (by decide) sub_list_dict F.slot_dict_eq F.slot_list_eq_refl
    (fun _ hq => call_meets F.slot_dict_eq h.ty F.entry_dict_eq (F.args_dict_eq_2 _ _) (dict_eq_no sub_list_dict l) ⟨(tyL hq0), hq⟩)
    (fun _ hq => call_meets F.slot_list_eq_refl (tyL hq0) F.entry_list_eq (F.args_list_eq_2 _ _) (list_eq_no l q o h.cls) ⟨h.get, hq⟩)
    (fun _ hq => isSame_dic h (tyL hq0) (by decide) hq) (.inr hu) hQ
theorem rc_tuple_dic {q : Addr} {items : Array Value} (hq0 : s.heap.IsTuple q items) (h : IsDic s l o es n) (hu : A.units < cLine) : SeqAt.RcAt A s (.ref q) (.ref l) false := fun prog w E Q hQ =>
  SeqAt.rc_eq_decline_or (tyT hq0) h.ty (by decide) sub_dict_tuple F.slot_tuple_eq F.slot_dict_eq_refl
    (fun _ hq => call_meets F.slot_tuple_eq (tyT hq0) F.entry_tuple_eq (F.args_tuple_eq_2 _ _) (tuple_eq_no l q o h.cls) ⟨h.get, hq⟩)
    (fun _ hq => call_meets F.slot_dict_eq_refl h.ty F.entry_dict_eq (F.args_dict_eq_2 _ _) (dict_eq_no sub_tuple_dict l) ⟨(tyT hq0), hq⟩)
    (fun _ hq => dic_isSame h (tyT hq0) (by decide) hq) (.inr hu) hQ
theorem rc_dic_tuple {q : Addr} {items : Array Value} (hq0 : s.heap.IsTuple q items) (h : IsDic s l o es n) (hu : A.units < cLine) : SeqAt.RcAt A s (.ref l) (.ref q) false := fun prog w E Q hQ =>
  SeqAt.rc_eq_decline_or h.ty (tyT hq0) (by decide) sub_tuple_dict F.slot_dict_eq F.slot_tuple_eq_refl
    (fun _ hq => call_meets F.slot_dict_eq h.ty F.entry_dict_eq (F.args_dict_eq_2 _ _) (dict_eq_no sub_tuple_dict l) ⟨(tyT hq0), hq⟩)
    (fun _ hq => call_meets F.slot_tuple_eq_refl (tyT hq0) F.entry_tuple_eq (F.args_tuple_eq_2 _ _) (tuple_eq_no l q o h.cls) ⟨h.get, hq⟩)
    (fun _ hq => isSame_dic h (tyT hq0) (by decide) hq) (.inr hu) hQ
end
end Dl
namespace Dl
open PySem PySem.Spec PyProof.Rows L2 Rt
theorem eqAt_str_any {A : Around} {s : Shared} {x : Value} {d : D} {as : List Addr} (b : Str) (u : Tok) (r : Reads s.heap x d as) (hu : A.units < cLine) : SeqAt.EqAt A s (.str b u) x (PyData.eqv (.str b) d) := by
  cases r with
  | none => exact SeqAt.EqAt.str_none b u
  | bool c => exact SeqAt.EqAt.str_bool b u c
  | int c t => exact SeqAt.EqAt.str_int b u c t
  | str c t => exact SeqAt.EqAt.str_str b u c t
  | list g c e _ => exact SeqAt.EqAt.str_list b u ⟨_, g, c, _, e⟩ hu
  | tuple g c e _ => exact SeqAt.EqAt.str_tuple b u ⟨_, g, c, _, e⟩ hu
  | dict g c e _ _ => exact eqAt_str_dict b u g c e hu
mutual
theorem Rp.reads {X : Cx} {pn : List (Addr × Obj)} {σ : L2.St} {M : Addr → Prop} {H : Hp} {s : Shared} (I : L2.Inv X pn σ H s) : ∀ {v : V} {d : D} {u : Value}, Rp M H v d → RelV v u → ∃ as, Reads s.heap u d as
  | _, _, _, .non, r => by cases r; exact ⟨_, .none⟩
  | _, _, _, .bl b, r => by cases r; exact ⟨_, .bool b⟩
  | _, _, _, .int i, r => by obtain ⟨t, rfl⟩ := r; exact ⟨_, .int i t⟩
  | _, _, _, .str x _, r => by obtain ⟨t, rfl⟩ := r; exact ⟨_, .str x t⟩
  | _, _, _, .tup t n l h, r => by
    cases r
    obtain ⟨its, vi, ⟨o, g, c, k, e⟩, _⟩ := I.tuple t.sq
    obtain ⟨as, ra⟩ := RpAll.reads I h vi
    exact ⟨_, .tuple g c e (by simpa using ra)⟩
  | _, _, _, .lst t n l h, r => by
    cases r
    obtain ⟨_, its, k, vi, g⟩ := I.hok _ _ t
    obtain ⟨as, ra⟩ := RpAll.reads I h vi
    exact ⟨_, .list g rfl rfl (by simpa using ra)⟩
  | _, _, _, .dic e n, r => by
    cases r
    obtain ⟨_, _, vs, kv, o, es, ep, g, x, dd, _, pr, _⟩ := I.hok _ _ e
    cases kv
    generalize hl : es.toList = el at pr
    cases pr
    exact ⟨_, .dict (kvs := []) g x.1 dd (by rw [hl]; exact .nil) (by rw [hl]; exact .nil)⟩
theorem RpAll.reads {X : Cx} {pn : List (Addr × Obj)} {σ : L2.St} {M : Addr → Prop} {H : Hp} {s : Shared} (I : L2.Inv X pn σ H s) : ∀ {vs : List V} {ds : List D} {us : List Value}, RpAll M H vs ds → Vals vs us → ∃ as, ReadsAll s.heap us ds as
  | _, _, _, .nil, r => by cases r; exact ⟨_, .nil⟩
  | _, _, _, .cons h t, r => by
    cases r with
    | cons r1 r2 =>
      obtain ⟨as, ra⟩ := Rp.reads I h r1
      obtain ⟨bs, rb⟩ := RpAll.reads I t r2
      exact ⟨_, .cons ra rb⟩
end
end Dl
namespace Dl
open PySem PySem.Spec PyProof.Rows L2 Rt
def isStrD : D → Bool
  | .str _ => true
  | _ => false
def eqS (d : D) : Value → Bool
  | .str b _ => PyData.eqv (.str b) d
  | _ => false
theorem any_strs {M : Addr → Prop} {H : Hp} {d : D} : ∀ {vs : List V} {ds : List D} {us : List Value}, RpAll M H vs ds → Vals vs us → ds.all isStrD = true → us.any (eqS d) = ds.any fun z => PyData.eqv z d
  | _, _, _, .nil, r, _ => by cases r; rfl
  | _, _, _, .cons h t, r, e => by
    cases r with
    | cons r1 r2 =>
      have e := Bool.and_eq_true_iff.mp e
      cases h <;> try (exact absurd e.1 Bool.false_ne_true)
      obtain ⟨tk, rfl⟩ := r1
      exact congrArg _ (any_strs t r2 e.2)
theorem mem_strs {M : Addr → Prop} {H : Hp} : ∀ {vs : List V} {ds : List D} {us : List Value}, RpAll M H vs ds → Vals vs us → ds.all isStrD = true → ∀ y ∈ us, ∃ b t, y = .str b t
  | _, _, _, .nil, r, _ => by cases r; exact fun _ h => nomatch h
  | _, _, _, .cons h t, r, e => by
    cases r with
    | cons r1 r2 =>
      have e := Bool.and_eq_true_iff.mp e
      cases h <;> try (exact absurd e.1 Bool.false_ne_true)
      obtain ⟨tk, rfl⟩ := r1
      intro y hy
      rcases List.mem_cons.mp hy with rfl | hy
      · exact ⟨_, _, rfl⟩
      · exact mem_strs t r2 e.2 y hy
variable {X : Cx}
def inS : D → D → Option D
  | a, .tuple ds => if ds.all isStrD = true then some (.bool (ds.any fun z => PyData.eqv z a)) else none
  | _, _ => none
def ninS : D → D → Option D
  | a, .tuple ds => if ds.all isStrD = true then some (.bool (!ds.any fun z => PyData.eqv z a)) else none
  | _, _ => none
theorem o_inS (hu : X.A.units + 65 < cLine) : OpR X (compareOp .In) (rD inS) := by
  intro pn s σ H x y v u Q I rx ry h
  obtain ⟨M, a, b, d, dm, ra, rb, e, q⟩ := h
  cases rb <;> (try (cases ra <;> cases e; done))
  rename_i xs ds t n l r
  obtain ⟨l2, rfl⟩ := iteS (show (if ds.all isStrD = true then some (PyData.bool (ds.any fun z => PyData.eqv z a)) else none) = some d by cases a <;> exact e)
  cases ry
  obtain ⟨as, r1⟩ := Rp.reads I ra rx
  obtain ⟨its, vi, it, _⟩ := I.tuple t.sq
  refine SeqAt.in_tupleAt (eqS a) it (fun y hy => ?_) ⟨.bl _, H, I, ?_, q _ _ (Same.refl _) (.bl _)⟩
  · obtain ⟨b, tk, rfl⟩ := mem_strs r vi l2 y (by simpa using hy)
    exact eqAt_str_any b tk r1 (show X.A.units + 1 < cLine by omega)
  · show Value.bool _ = Value.bool _
    rw [← any_strs r vi l2]
    simp
theorem o_ninS (hu : X.A.units + 65 < cLine) : OpR X (compareOp .NotIn) (rD ninS) := by
  intro pn s σ H x y v u Q I rx ry h
  obtain ⟨M, a, b, d, dm, ra, rb, e, q⟩ := h
  cases rb <;> (try (cases ra <;> cases e; done))
  rename_i xs ds t n l r
  obtain ⟨l2, rfl⟩ := iteS (show (if ds.all isStrD = true then some (PyData.bool (!ds.any fun z => PyData.eqv z a)) else none) = some d by cases a <;> exact e)
  cases ry
  obtain ⟨as, r1⟩ := Rp.reads I ra rx
  obtain ⟨its, vi, it, _⟩ := I.tuple t.sq
  refine SeqAt.notIn_tupleAt (eqS a) it (fun y hy => ?_) ⟨.bl _, H, I, ?_, q _ _ (Same.refl _) (.bl _)⟩
  · obtain ⟨b, tk, rfl⟩ := mem_strs r vi l2 y (by simpa using hy)
    exact eqAt_str_any b tk r1 (show X.A.units + 1 < cLine by omega)
  · show Value.bool _ = Value.bool _
    rw [← any_strs r vi l2]
    simp
end Dl
namespace Dl
open PySem PySem.Spec PyProof.Rows L2 Rt
variable {X : Cx}
def neT0 : D → D → Option D
  | .tuple ds, .tuple [] => some (.bool (!ds.isEmpty))
  | _, _ => none
theorem o_neT0 (hu : X.A.units + 64 < cLine) : OpR X (compareOp .NotEq) (rD neT0) := by
  intro pn s σ H x y v u Q I rx ry h
  obtain ⟨M, a, b, d, dm, ra, rb, e, q⟩ := h
  cases ra <;> (try (cases rb <;> cases e; done))
  rename_i xs ds t n l r
  cases rb <;> (try (cases e; done))
  rename_i xs2 ds2 t2 n2 l2 r2
  cases r2 <;> (try (cases e; done))
  cases e
  cases rx
  cases ry
  obtain ⟨its, vi, it, _⟩ := I.tuple t.sq
  obtain ⟨its2, vi2, it2, _⟩ := I.tuple t2.sq
  cases vi2
  refine SeqAt.RcNeAt.tuples (e := fun _ => true) it it2 (by omega) (fun j _ h2 => absurd h2 (by simp)) _ _ _ _ ⟨.bl _, H, I, ?_, q _ _ (Same.refl _) (.bl _)⟩
  show Value.bool _ = Value.bool _
  congr 1
  cases r <;> cases vi <;> simp
end Dl
namespace Dl
open PySem PySem.Spec PyProof.Rows L2 Rt
/-! ### data of any sort: texts of true signs, tuples that aren't too long -/
mutual
def gq : D → Bool
  | .str z => PyData.strOk z
  | .tuple ds => decide (ds.length ≤ 1000) && gqAll ds
  | _ => true
def gqAll : List D → Bool
  | [] => true
  | d :: ds => gq d && gqAll ds
end
theorem gqAll.mem : ∀ {ds : List D}, gqAll ds = true → ∀ d ∈ ds, gq d = true
  | [], _ => fun d m => nomatch m
  | x :: xs, h => by
    have h := Bool.and_eq_true_iff.mp (show (gq x && gqAll xs) = true from h)
    intro d m
    rcases List.mem_cons.mp m with e | e
    · rw [e]; exact h.1
    · exact gqAll.mem h.2 d e
theorem gqAll.of : ∀ {ds : List D}, (∀ d ∈ ds, gq d = true) → gqAll ds = true
  | [], _ => rfl
  | x :: xs, h => Bool.and_eq_true_iff.mpr ⟨h x (by simp), gqAll.of fun d m => h d (by simp [m])⟩
theorem gq.two {ds : List D} (h : gq (.tuple ds) = true) : ds.length ≤ 1000 ∧ ∀ d ∈ ds, gq d = true := by
  have h := Bool.and_eq_true_iff.mp (show (decide (ds.length ≤ 1000) && gqAll ds) = true from h)
  exact ⟨of_decide_eq_true h.1, gqAll.mem h.2⟩
theorem gq.tup {ds : List D} (h : gq (.tuple ds) = true) : ∀ d ∈ ds, gq d = true := (gq.two h).2
def okK : D → Bool
  | .tuple ks => ks.all isStrD
  | _ => false
theorem ninS_tup {a : D} {ks : List D} (_h : gq a = true) (k : okK (.tuple ks) = true) : ninS a (.tuple ks) = some (.bool (!ks.any fun z => PyData.eqv z a)) := by
  cases a <;> exact if_pos k
theorem inS_tup {a : D} {ks : List D} (_h : gq a = true) (k : okK (.tuple ks) = true) : inS a (.tuple ks) = some (.bool (ks.any fun z => PyData.eqv z a)) := by
  cases a <;> exact if_pos k
section
variable {X : Cx}
/-- a list beside [] -/
def neL0 : D → D → Option D
  | .list ds, .list [] => some (.bool (!ds.isEmpty))
  | _, _ => none
theorem o_neL0 (hu : X.A.units + 64 < cLine) : OpR X (compareOp .NotEq) (rD neL0) := by
  intro pn s σ H x y v u Q I rx ry h
  obtain ⟨M, a, b, d, dm, ra, rb, e, q⟩ := h
  cases ra <;> (try (cases rb <;> cases e; done))
  rename_i xs ds t n l r
  cases rb <;> (try (cases e; done))
  rename_i xs2 ds2 t2 n2 l2 r2
  cases r2 <;> (try (cases e; done))
  cases e
  cases rx
  cases ry
  obtain ⟨_, its, k, vi, g⟩ := I.hok _ _ t
  obtain ⟨_, its2, k2, vi2, g2⟩ := I.hok _ _ t2
  cases vi2
  cases r with
  | nil =>
    cases vi
    refine SeqAt.RcNeAt.lists (e := fun _ => true) ⟨_, g, rfl, _, rfl⟩ ⟨_, g2, rfl, _, rfl⟩ rfl (by omega) (fun j h1 _ => absurd h1 (by simp)) _ _ _ _ ⟨.bl _, H, I, ?_, q _ _ (Same.refl _) (.bl _)⟩
    show Value.bool _ = Value.bool _
    simp
  | cons h1 h2 =>
    cases vi
    refine SeqAt.RcNeAt.lists_lengths ⟨_, g, rfl, _, rfl⟩ ⟨_, g2, rfl, _, rfl⟩ (by simp) (by omega) _ _ _ _ ⟨.bl _, H, I, ?_, q _ _ (Same.refl _) (.bl _)⟩
    rfl
/-- truths among numbers -/
def addX : D → D → Option D
  | .bool a, .int j => some (.int ((if a = true then (1 : Int) else 0) + j))
  | a, b => addD a b
def subX : D → D → Option D
  | .bool a, .int j => some (.int ((if a = true then (1 : Int) else 0) - j))
  | a, b => subD a b
theorem o_addX : OpR X (binaryOp .Add) (rD addX) := by
  intro pn s σ H x y v u Q I rx ry h
  obtain ⟨M, a, b, d, dm, ra, rb, e, q⟩ := h
  by_cases hb : ∃ k j, a = .bool k ∧ b = .int j
  · obtain ⟨k, j, rfl, rfl⟩ := hb
    cases e
    cases ra
    cases rb
    cases rx
    obtain ⟨t, rfl⟩ := ry
    exact PySem.IntBool.add_bool_int ⟨.int _, H, I.tok _, ⟨_, rfl⟩, q _ _ (Same.refl _) (.int _)⟩
  · refine o_add pn s σ H _ _ v u Q I rx ry ⟨M, a, b, d, dm, ra, rb, ?_, q⟩
    unfold addX at e
    split at e
    · exact (hb ⟨_, _, rfl, rfl⟩).elim
    · exact e
theorem o_subX : OpR X (binaryOp .Sub) (rD subX) := by
  intro pn s σ H x y v u Q I rx ry h
  obtain ⟨M, a, b, d, dm, ra, rb, e, q⟩ := h
  by_cases hb : ∃ k j, a = .bool k ∧ b = .int j
  · obtain ⟨k, j, rfl, rfl⟩ := hb
    cases e
    cases ra
    cases rb
    cases rx
    obtain ⟨t, rfl⟩ := ry
    exact PySem.IntBool.sub_bool_int ⟨.int _, H, I.tok _, ⟨_, rfl⟩, q _ _ (Same.refl _) (.int _)⟩
  · refine o_sub pn s σ H _ _ v u Q I rx ry ⟨M, a, b, d, dm, ra, rb, ?_, q⟩
    unfold subX at e
    split at e
    · exact (hb ⟨_, _, rfl, rfl⟩).elim
    · exact e
/-- slices of texts, too -/
def slX : D → Option Int → Option Int → Option D
  | .str z, lo, hi => some (.str (cutS z lo hi))
  | d, lo, hi => slD d lo hi
def rSlX' : V → Option Int → Option Int → Hp → VK → Prop := fun x lo hi H Q => ∃ M a d, Dom M H ∧ Rp M H x a ∧ slX a lo hi = some d ∧ ∀ v H', Same H H' → Rp M H' v d → Q v H'
theorem s_slX : SlR X rSlX' := by
  intro pn s σ H x v vl vu lo hi sl Q I rx hs pl pu h
  obtain ⟨M, a, d, dm, ra, e, q⟩ := h
  by_cases hz : ∃ z, a = .str z
  · obtain ⟨z, rfl⟩ := hz
    cases e
    cases ra
    rename_i hz
    exact sl_str pn s σ H _ v vl vu lo hi sl Q I rx hs pl pu ⟨z, rfl, hz, q _ _ (Same.refl _) (.str _ (Nat.le_trans (cutS_length _ _ _) hz))⟩
  · refine s_sl pn s σ H _ v vl vu lo hi sl Q I rx hs pl pu ⟨M, a, d, dm, ra, ?_, q⟩
    cases a <;> first | exact e | exact (hz ⟨_, rfl⟩).elim
def eSlX (f : EF) (lo hi : Rho → Option (Option Int)) : EF := fun ρ => (f ρ).bind fun d => (lo ρ).bind fun l => (hi ρ).bind fun h => slX d l h
theorem dE_slX {e : Expr} {lo hi : Option Expr} {pos p2 : Pos} {f : EF} {g h : Rho → Option (Option Int)} {μ : Bool} (he : PE X e (tD μ f)) (hl : PO X lo (tPo g)) (hh : PO X hi (tPo h)) : PE X (.Subscript e (.Slice lo hi none p2) pos) (tD μ (eSlX f g h)) := (pe_slice s_slX he hl hh).wk fun σ H Q q => by
  obtain ⟨M0, H0, ρ, d, R, e, q⟩ := q
  obtain ⟨d1, e1, e⟩ := some_bind e
  obtain ⟨l, el, e⟩ := some_bind e
  obtain ⟨u, eu, e⟩ := some_bind e
  exact ⟨M0, H0, ρ, d1, R, e1, fun v H1 s1 r1 => ⟨M0, H0, ρ, l, R.mono s1, el, fun H2 s2 => ⟨M0, H0, ρ, u, R.mono (s1.trans s2), eu, fun H3 s3 => ⟨_, d1, d, (R.mono ((s1.trans s2).trans s3)).domu μ, r1.mono (.of (s2.trans s3)), e, fun v H4 s4 r4 => q v H4 (((s1.trans s2).trans s3).trans s4) r4⟩⟩⟩⟩
/-- t[::-1] -/
def tRevF (K : PySem.W.Frag) (te : TE) : TE := fun σ H Q => te σ H fun x H1 => ∃ a xs, x = .ref a ∧ SqT K H1 a xs ∧ ∀ p H', H1 p = none → Same H1 H' → TupF H' p xs.reverse → Q (.ref p) H'
theorem pe_revF {e : Expr} {te : TE} {k : Nat} {p1 p2 p3 pos : Pos} (he : PE X e te) : PE X (.Subscript e (.Slice none none (some (.UnaryOp .USub (.Constant (.int 1) k p1) p2)) p3) pos) (tRevF X.K te) := by
  refine ⟨fun pn s σ H Q I h => ?_⟩
  refine Subscript_ (thn (he.run pn s σ H _ I h) fun v s1 ⟨x, H1, I1, r1, q1⟩ => ?_)
  obtain ⟨a, xs, ex, hx, q⟩ := q1
  subst ex
  cases r1
  have hst : PO X (some (.UnaryOp .USub (.Constant (.int 1) k p1) p2)) (tPart (tUn (rU fun i => .int (-i)) (tC (.int 1)))) := po_some (pe_un un_neg pe_int)
  refine wpAny_Slice (thn (po_none.run pn s1 σ H1 (fun o H2 => o = none ∧ H2 = H1) I1 ⟨rfl, rfl⟩) fun vl s2 ⟨l, H2, I2, pl, el, e2⟩ => ?_)
  subst el e2
  refine thn (po_none.run pn s2 σ H2 (fun o H3 => o = none ∧ H3 = H2) I2 ⟨rfl, rfl⟩) fun vu s3 ⟨u, H3, I3, pu, eu, e3⟩ => ?_
  subst eu e3
  refine thn (hst.run pn s3 σ H3 (fun o H4 => o = some (-1) ∧ H4 = H3) I3 ⟨1, rfl, -1, rfl, rfl, rfl⟩) fun vs s4 ⟨o, H4, I4, ps, eo, e4⟩ => ?_
  subst eo e4
  have I5 : Inv X pn σ H4 { s4 with heap := s4.heap.push { cls := .type "slice", data := .fields #[vl, vu, vs] } } := I4.kept (t' := s4.toks) fun b ob q => Heap.get?_push_of_some _ q
  obtain ⟨its, r, ht, hz⟩ := I5.tuple hx
  have hlen := r.length
  show wpAny (model X.prog X.w) X.A (subscriptTail e (.Slice none none (some (.UnaryOp .USub (.Constant (.int 1) k p1) p2)) p3) (.ref a) (.ref s4.heap.objs.size)) (EP X pn σ Q) X.xe { s4 with heap := s4.heap.push { cls := .type "slice", data := .fields #[vl, vu, vs] } }
  refine tail_any (ops := [.ref a, .ref s4.heap.objs.size]) ht.typeIs (PyProof.Rows.slot_tuple_getitem.lookup) ?_ (by with_unfolding_all rfl)
  refine item_rev ht (Heap.IsSliceOf.new _ vl vu vs) pl pu ps ?_ (by rw [List.size_toArray]; omega)
  have fr := I5.hok.fresh (Nat.le_refl _)
  exact ⟨.ref _, _, Inv.tupF I5 r.reverse (by rw [List.length_reverse]; exact hz), rfl, q _ _ fr (smN fr) updF⟩
def revD : D → Option D
  | .tuple ds => some (.tuple ds.reverse)
  | _ => none
theorem RpAll.rev {M : Addr → Prop} {H : Hp} : ∀ {vs : List V} {ds : List D}, RpAll M H vs ds → RpAll M H vs.reverse ds.reverse
  | _, _, .nil => .nil
  | _, _, .cons h t => by rw [List.reverse_cons, List.reverse_cons]; exact t.rev.app (.cons h .nil)
theorem dE_rev {e : Expr} {k : Nat} {p1 p2 p3 pos : Pos} {f : EF} {μ : Bool} (h : PE X e (tD μ f)) : PE X (.Subscript e (.Slice none none (some (.UnaryOp .USub (.Constant (.int 1) k p1) p2)) p3) pos) (tD μ (e1 revD f)) := (pe_revF h).wk fun σ H Q q => by
  obtain ⟨M0, H0, ρ, d, R, e, q⟩ := q
  obtain ⟨d1, e1, e⟩ := some_bind e
  refine ⟨M0, H0, ρ, d1, R, e1, fun v H1 s1 r1 => ?_⟩
  cases r1 <;> try (cases e; done)
  rename_i t n l r
  cases e
  exact ⟨_, _, rfl, t.sq, fun p H2 np s2 t2 => q _ H2 (s1.trans s2) (.tup t2 (((R.mono s1).domu μ).not np) (by rw [List.length_reverse]; exact l) (r.rev.mono (.of s2)))⟩
/-- {} -/
theorem dE_dic0 {pos : Pos} {μ : Bool} : PE X (.Dict [] [] pos) (tD μ (eC (.dict []))) := pe_dnewK.wk fun σ H Q q => by
  obtain ⟨M0, H0, ρ, d, R, e, q⟩ := q
  cases e
  exact fun p np => q _ _ (smN np) (.dic upd_same ((R.domu μ).not np))
/-! ### shown -/
mutual
theorem Rp.readsN {X : Cx} {pn : List (Addr × Obj)} {σ : L2.St} {M : Addr → Prop} {H : Hp} {s : Shared} (I : L2.Inv X pn σ H s) (hB : ∃ o, X.base.get? sysModules = some o) : ∀ {v : V} {d : D} {u : Value}, Rp M H v d → RelV v u → ∃ as, Reads s.heap u d as ∧ sysModules ∉ as
  | _, _, _, .non, r => by cases r; exact ⟨_, .none, by simp⟩
  | _, _, _, .bl b, r => by cases r; exact ⟨_, .bool b, by simp⟩
  | _, _, _, .int i, r => by obtain ⟨t, rfl⟩ := r; exact ⟨_, .int i t, by simp⟩
  | _, _, _, .str x _, r => by obtain ⟨t, rfl⟩ := r; exact ⟨_, .str x t, by simp⟩
  | _, _, _, .tup t n l h, r => by
    cases r
    obtain ⟨its, vi, ⟨o, g, c, k, e⟩, _⟩ := I.tuple t.sq
    obtain ⟨as, ra, na⟩ := RpAll.readsN I hB h vi
    exact ⟨_, .tuple g c e (by simpa using ra), na⟩
  | _, _, _, .lst t n l h, r => by
    cases r
    obtain ⟨_, its, k, vi, g⟩ := I.hok _ _ t
    obtain ⟨as, ra, na⟩ := RpAll.readsN I hB h vi
    refine ⟨_, .list g rfl rfl (by simpa using ra), fun m => ?_⟩
    rcases List.mem_cons.mp m with z | z
    · obtain ⟨o, hB⟩ := hB
      have := (I.bs _ _ hB).2
      rw [z, t] at this
      cases this
    · exact na z
  | _, _, _, .dic e n, r => by
    cases r
    have hs := (dk_of I.hok e).2.1
    obtain ⟨_, _, vs, kv, o, es, ep, g, x, dd, _, pr, _⟩ := I.hok _ _ e
    cases kv
    generalize hl : es.toList = el at pr
    cases pr
    exact ⟨_, .dict (kvs := []) g x.1 dd (by rw [hl]; exact .nil) (by rw [hl]; exact .nil), fun m => by
      rcases List.mem_cons.mp m with z | z
      · exact beq_eq_false_iff_ne.mp hs z.symm
      · cases z⟩
theorem RpAll.readsN {X : Cx} {pn : List (Addr × Obj)} {σ : L2.St} {M : Addr → Prop} {H : Hp} {s : Shared} (I : L2.Inv X pn σ H s) (hB : ∃ o, X.base.get? sysModules = some o) : ∀ {vs : List V} {ds : List D} {us : List Value}, RpAll M H vs ds → Vals vs us → ∃ as, ReadsAll s.heap us ds as ∧ sysModules ∉ as
  | _, _, _, .nil, r => by cases r; exact ⟨_, .nil, by simp⟩
  | _, _, _, .cons h t, r => by
    cases r with
    | cons r1 r2 =>
      obtain ⟨as, ra, na⟩ := Rp.readsN I hB h r1
      obtain ⟨bs, rb, nb⟩ := RpAll.readsN I hB t r2
      exact ⟨_, .cons ra rb, by simp [na, nb]⟩
end
def reprD : List D → Option D
  | [d] => if d.showable = true ∧ d.depth ≤ 60 ∧ d.shown.length ≤ sizeLine then some (.str d.shown) else none
  | _ => none
theorem c_repr (free : X.A.guards = some []) (hB : ∃ o, X.base.get? sysModules = some o) (hu : X.A.units + 64 < cLine) : CallR X (.builtin "repr") (rC reprD) := by
  intro pn s σ H xs us Q I r h
  obtain ⟨M, ds, d, dm, ra, e, q⟩ := h
  match ds, ra, e with
  | [], _, e => cases e
  | [x], .cons rx .nil, e =>
    obtain ⟨u, rfl, r1⟩ := vals1 r
    obtain ⟨⟨l1, l2, l3⟩, rfl⟩ := iteS e
    obtain ⟨as, rd, na⟩ := Rp.readsN I hB rx r1
    have fin : ∀ (h' : Heap) (u : Tok) (tk : Tok), (∀ b o, s.heap.get? b = some o → h'.get? b = some o) → EP X pn σ Q (.str x.shown u) { s with heap := h', toks := tk } := fun h' u tk hk => ⟨.str _, H, I.kept hk, ⟨_, rfl⟩, q _ _ (Same.refl _) (.str _ l3)⟩
    cases rd with
    | none => exact PySem.P.repr_of_none (fin s.heap _ _ fun _ _ e => e)
    | bool b => exact PySem.P.repr_of_bool (by cases b <;> exact fin s.heap _ _ fun _ _ e => e)
    | int i t => exact PySem.P.repr_of_int (of_decide_eq_true l1) (fin s.heap _ _ fun _ _ e => e)
    | str z t => exact PySem.P.repr_of_str (fin s.heap _ _ fun _ _ e => e) l3
    | list a b c d => exact repr_of_reads' (.list a b c d) l1 (fun _ => na) free (by omega) (fun _ _ e => e) fin l3
    | tuple a b c d => exact repr_of_reads' (.tuple a b c d) l1 (fun _ => na) free (by omega) (fun _ _ e => e) fin l3
    | dict a b c d f => exact repr_of_reads' (.dict a b c d f) l1 (fun _ => na) free (by omega) (fun _ _ e => e) fin l3
  | _ :: _ :: _, _, e => cases e
end
end Dl
namespace Dl
open PySem PySem.Spec PyProof.Rows L2 Rt
/-! ### data that is neither deep nor long -/
def Bd (m : Nat) : Nat → D → Prop
  | 0, _ => False
  | n + 1, .tuple ds => ds.length ≤ 10 + m ∧ ∀ d ∈ ds, Bd m n d
  | n + 1, .list ds => ds.length ≤ 10 + m ∧ ∀ d ∈ ds, Bd m n d
  | _ + 1, .dict kvs => kvs = []
  | _ + 1, .int i => i.natAbs ≤ 10 ^ 29 + 100 * m
  | _ + 1, .str z => PyData.strOk z = true ∧ z.length ≤ 20 + 20 * m
  | _ + 1, .none => True
  | _ + 1, .bool _ => True
theorem Bd.up {m m' : Nat} (hm : m ≤ m') : ∀ {n n' : Nat} {d : D}, Bd m n d → n ≤ n' → Bd m' n' d
  | 0, _, _, h, _ => h.elim
  | n + 1, 0, _, _, l => absurd l (by omega)
  | n + 1, n' + 1, .tuple ds, h, l => ⟨Nat.le_trans h.1 (by omega), fun d hd => Bd.up hm (h.2 d hd) (by omega)⟩
  | n + 1, n' + 1, .list ds, h, l => ⟨Nat.le_trans h.1 (by omega), fun d hd => Bd.up hm (h.2 d hd) (by omega)⟩
  | n + 1, n' + 1, .dict kvs, h, l => h
  | n + 1, n' + 1, .int i, h, l => Nat.le_trans (show i.natAbs ≤ 10 ^ 29 + 100 * m from h) (by omega)
  | n + 1, n' + 1, .str z, h, l => ⟨h.1, Nat.le_trans h.2 (by omega)⟩
  | n + 1, n' + 1, .none, h, l => trivial
  | n + 1, n' + 1, .bool _, h, l => trivial
theorem Bd.gq {m : Nat} (hm : m ≤ 100) : ∀ {n : Nat} {d : D}, Bd m n d → Dl.gq d = true
  | 0, _, h => h.elim
  | n + 1, .tuple ds, h => Bool.and_eq_true_iff.mpr ⟨decide_eq_true (Nat.le_trans h.1 (by omega)), gqAll.of fun d hd => Bd.gq hm (h.2 d hd)⟩
  | n + 1, .list ds, h => rfl
  | n + 1, .dict kvs, h => rfl
  | n + 1, .int i, h => rfl
  | n + 1, .str z, h => h.1
  | n + 1, .none, h => rfl
  | n + 1, .bool _, h => rfl
theorem all_show : ∀ {ds : List D}, (∀ d ∈ ds, d.showable = true) → PyData.showableAll ds = true
  | [], _ => rfl
  | d :: r, h => by
    show (d.showable && PyData.showableAll r) = true
    rw [h d (by simp), all_show fun x hx => h x (by simp [hx])]
    rfl
theorem all_depth {k : Nat} : ∀ {ds : List D}, (∀ d ∈ ds, d.depth ≤ k) → PyData.depthAll ds ≤ k
  | [], _ => Nat.zero_le _
  | d :: r, h => Nat.max_le.mpr ⟨h d (by simp), all_depth fun x hx => h x (by simp [hx])⟩
theorem all_leaves {B : Nat} : ∀ {ds : List D}, (∀ d ∈ ds, d.leavesShort B = true) → PyData.leavesShortAll B ds = true
  | [], _ => rfl
  | d :: r, h => by
    show (d.leavesShort B && PyData.leavesShortAll B r) = true
    rw [h d (by simp), all_leaves fun x hx => h x (by simp [hx])]
    rfl
theorem big30 {i : Int} {m : Nat} (hm : m ≤ 100) (h : i.natAbs ≤ 10 ^ 29 + 100 * m) : i.natAbs < 10 ^ 30 :=
  Nat.lt_of_le_of_lt h (Nat.lt_of_le_of_lt (Nat.add_le_add_left (Nat.mul_le_mul_left 100 hm) _) (by decide))
theorem log30 {i : Int} (h : i.natAbs < 10 ^ 30) : i.natAbs.log2 < 100 := by
  by_cases z : i.natAbs = 0
  · rw [z]; decide
  · exact (Nat.log2_lt z).mpr (Nat.lt_trans h (by decide))
theorem Bd.lim {m : Nat} (hm : m ≤ 100) : ∀ {n : Nat} {d : D}, Bd m n d → d.showable = true ∧ d.depth ≤ n ∧ d.leavesShort 40 = true
  | 0, _, h => h.elim
  | n + 1, .tuple ds, h => ⟨all_show fun d hd => (Bd.lim hm (h.2 d hd)).1, Nat.succ_le_succ (all_depth fun d hd => (Bd.lim hm (h.2 d hd)).2.1), all_leaves fun d hd => (Bd.lim hm (h.2 d hd)).2.2⟩
  | n + 1, .list ds, h => ⟨all_show fun d hd => (Bd.lim hm (h.2 d hd)).1, Nat.succ_le_succ (all_depth fun d hd => (Bd.lim hm (h.2 d hd)).2.1), all_leaves fun d hd => (Bd.lim hm (h.2 d hd)).2.2⟩
  | n + 1, .dict kvs, h => by
    cases (show kvs = [] from h)
    exact ⟨rfl, by show 0 + 1 ≤ n + 1; omega, rfl⟩
  | n + 1, .int i, h => by
    have h1 := big30 hm h
    refine ⟨decide_eq_true (Nat.lt_trans (log30 h1) (by decide)), Nat.zero_le _, decide_eq_true ?_⟩
    have := int_text_length_le10 (a := i) (k := 30) (by decide) h1
    show (Str.ofString (toString i)).length ≤ 40
    rw [PySem.ofString_length]
    omega
  | n + 1, .str z, h => ⟨rfl, Nat.zero_le _, by
    have o := h.1
    unfold PyData.strOk at o
    rw [Array.all_eq_true'] at o
    show (z.cps.toList.all fun c => decide (c < 16 ^ 8)) = true
    rw [List.all_eq_true]
    intro c hc
    have := of_decide_eq_true (o c (Array.mem_toList_iff.mp hc))
    exact decide_eq_true (Nat.lt_trans this (by decide))⟩
  | n + 1, .none, h => ⟨rfl, Nat.zero_le _, rfl⟩
  | n + 1, .bool _, h => ⟨rfl, Nat.zero_le _, rfl⟩
/-- it can be shown -/
theorem Bd.repr {m n : Nat} {d : D} (h : Bd m n d) (hm : m ≤ 100) (hn : n ≤ 60) (hw : d.weight ≤ 200000) : reprD [d] = some (.str d.shown) := by
  obtain ⟨a, b, c⟩ := h.lim hm
  have := PyData.shown_le 40 (by decide) d c
  refine if_pos ⟨a, by omega, Nat.le_trans this ?_⟩
  exact Nat.le_trans (show (40 + 2) * d.weight + 40 ≤ 8400040 by omega) (by decide)
/-! ### weights -/
theorem wAll_app : ∀ (a b : List D), PyData.weightAll (a ++ b) = PyData.weightAll a + PyData.weightAll b
  | [], b => (Nat.zero_add _).symm
  | x :: a, b => by
    show x.weight + 1 + PyData.weightAll (a ++ b) = x.weight + 1 + PyData.weightAll a + PyData.weightAll b
    rw [wAll_app a b]
    omega
theorem wAll_mem : ∀ {a : List D} {x : D}, x ∈ a → x.weight + 1 ≤ PyData.weightAll a
  | y :: a, x, h => by
    show x.weight + 1 ≤ y.weight + 1 + PyData.weightAll a
    rcases List.mem_cons.mp h with e | e
    · rw [e]; omega
    · have := wAll_mem e
      omega
theorem wAll_drop (a : List D) (n : Nat) : PyData.weightAll (a.drop n) ≤ PyData.weightAll a := by
  have := wAll_app (a.take n) (a.drop n)
  rw [List.take_append_drop] at this
  omega
theorem wAll_take (a : List D) (n : Nat) : PyData.weightAll (a.take n) ≤ PyData.weightAll a := by
  have := wAll_app (a.take n) (a.drop n)
  rw [List.take_append_drop] at this
  omega
theorem wAll_rev : ∀ a : List D, PyData.weightAll a.reverse = PyData.weightAll a
  | [] => rfl
  | x :: a => by
    rw [List.reverse_cons, wAll_app, wAll_rev a]
    show PyData.weightAll a + (x.weight + 1 + 0) = x.weight + 1 + PyData.weightAll a
    omega
theorem wAll_le {c : Nat} : ∀ {a : List D}, (∀ x ∈ a, x.weight ≤ c) → PyData.weightAll a ≤ a.length * (c + 1)
  | [], _ => Nat.zero_le _
  | x :: a, h => by
    have h1 := h x (by simp)
    have h2 := wAll_le (c := c) (a := a) fun y hy => h y (by simp [hy])
    show x.weight + 1 + PyData.weightAll a ≤ (a.length + 1) * (c + 1)
    rw [Nat.add_mul, Nat.one_mul]
    omega
theorem wAll_set {a : List D} {i : Nat} {y x : D} (hi : a[i]? = some x) : PyData.weightAll (a.set i y) + x.weight = PyData.weightAll a + y.weight := by
  have hl := (List.getElem?_eq_some_iff.mp hi).1
  have e1 : a.set i y = a.take i ++ y :: a.drop (i + 1) := by rw [List.set_eq_take_append_cons_drop, if_pos hl]
  have e2 : a = a.take i ++ x :: a.drop (i + 1) := by
    obtain ⟨_, e⟩ := List.getElem?_eq_some_iff.mp hi
    rw [← e]
    simp
  have w1 := wAll_app (a.take i) (y :: a.drop (i + 1))
  have w2 := wAll_app (a.take i) (x :: a.drop (i + 1))
  rw [← e1] at w1
  rw [← e2] at w2
  have w3 : PyData.weightAll (y :: a.drop (i + 1)) = y.weight + 1 + PyData.weightAll (a.drop (i + 1)) := rfl
  have w4 : PyData.weightAll (x :: a.drop (i + 1)) = x.weight + 1 + PyData.weightAll (a.drop (i + 1)) := rfl
  omega
theorem wInt {i : Int} (h : i.natAbs < 10 ^ 30) : (PyData.int i).weight ≤ 100 := by
  show (if i == 0 then 0 else i.natAbs.log2 + 1) ≤ 100
  have := log30 h
  split <;> omega
/-! ### odd things, and things bent -/
def OddP (d : D) : Prop := (∀ m, Bd m 2 d) ∧ d.weight ≤ 100
def SpP (x d : D) : Prop := (∀ m k, m ≤ 5 → Bd m k x → Bd (m + 1) (k + 2) d) ∧ d.weight ≤ 2 * x.weight + 200
theorem OddP.sp {x d : D} (h : OddP d) : SpP x d := ⟨fun m k _ _ => (h.1 (m + 1)).up (Nat.le_refl _) (by omega), by have := h.2; omega⟩
theorem cut_last {α : Type} (xs : List α) : cutD xs (some (-1)) none = xs.drop (xs.length - 1) := by
  unfold cutD
  rw [HT.sIx_none]
  have : HT.sIx xs.length 0 (some (-1)) = xs.length - 1 := by
    show (if (-1 : Int) < 0 then ((-1 : Int) + (xs.length : Int)).toNat else min (-1 : Int).toNat xs.length) = _
    rw [if_pos (by decide)]
    omega
  rw [this, List.take_of_length_le (by rw [List.length_drop]; omega)]
theorem sp_drop {xs : List D} : SpP (.tuple xs) (.tuple (xs.drop 1)) := ⟨fun m k _ h => by
  cases k with
  | zero => exact h.elim
  | succ k => exact ⟨by have := h.1; rw [List.length_drop]; omega, fun d hd => (h.2 d (List.mem_of_mem_drop hd)).up (by omega) (by omega)⟩, by
  show PyData.weightAll _ ≤ 2 * PyData.weightAll xs + 200
  have := wAll_drop xs 1
  omega⟩
theorem sp_more {xs : List D} : SpP (.tuple xs) (.tuple (xs ++ xs.drop (xs.length - 1))) := ⟨fun m k _ h => by
  cases k with
  | zero => exact h.elim
  | succ k => exact ⟨by have := h.1; rw [List.length_append, List.length_drop]; omega, fun d hd => by
      rcases List.mem_append.mp hd with hd | hd
      · exact (h.2 d hd).up (by omega) (by omega)
      · exact (h.2 d (List.mem_of_mem_drop hd)).up (by omega) (by omega)⟩, by
  show PyData.weightAll _ ≤ 2 * PyData.weightAll xs + 200
  rw [wAll_app]
  have := wAll_drop xs (xs.length - 1)
  omega⟩
theorem sp_rev {xs : List D} : SpP (.tuple xs) (.tuple xs.reverse) := ⟨fun m k _ h => by
  cases k with
  | zero => exact h.elim
  | succ k => exact ⟨by have := h.1; rw [List.length_reverse]; omega, fun d hd => (h.2 d (List.mem_reverse.mp hd)).up (by omega) (by omega)⟩, by
  show PyData.weightAll _ ≤ 2 * PyData.weightAll xs + 200
  rw [wAll_rev]
  omega⟩
theorem sp_list {xs : List D} : SpP (.tuple xs) (.list xs) := ⟨fun m k _ h => by
  cases k with
  | zero => exact h.elim
  | succ k => exact ⟨by have := h.1; omega, fun d hd => (h.2 d hd).up (by omega) (by omega)⟩, by
  show PyData.weightAll _ ≤ 2 * PyData.weightAll xs + 200
  omega⟩
theorem sp_set {xs : List D} {i : Nat} {x y : D} (hi : xs[i]? = some x) (h : SpP x y) : SpP (.tuple xs) (.tuple (xs.set i y)) := ⟨fun m k hm hb => by
  cases k with
  | zero => exact hb.elim
  | succ k => exact ⟨by have := hb.1; rw [List.length_set]; omega, fun d hd => by
      rcases List.mem_or_eq_of_mem_set hd with hd | rfl
      · exact (hb.2 d hd).up (by omega) (by omega)
      · exact h.1 m k hm (hb.2 x (List.mem_of_getElem? hi))⟩, by
  show PyData.weightAll _ ≤ 2 * PyData.weightAll xs + 200
  have h1 := wAll_set (y := y) hi
  have h2 := wAll_mem (List.mem_of_getElem? hi)
  have h3 := h.2
  omega⟩
theorem strOk_iff {z : Str} : PyData.strOk z = true ↔ ∀ c ∈ z.cps.toList, c < 1114112 := by
  unfold PyData.strOk
  rw [Array.all_eq_true']
  constructor
  · intro h c hc
    exact of_decide_eq_true (h c (Array.mem_toList_iff.mp hc))
  · intro h c hc
    exact decide_eq_true (h c (Array.mem_toList_iff.mpr hc))
theorem s_app (x y : Str) : (x ++ y).cps.toList = x.cps.toList ++ y.cps.toList := by
  show (x.cps ++ y.cps).toList = _
  rw [Array.toList_append]
theorem s_len (x : Str) : x.length = x.cps.toList.length := by
  show x.cps.size = _
  rw [Array.length_toList]
theorem sp_str {x y : Str} (h : ∀ c ∈ y.cps.toList, c ∈ x.cps.toList ∨ c < 1114112) (hl : y.length ≤ x.length + 8) : SpP (.str x) (.str y) := ⟨fun m k _ hb => by
  cases k with
  | zero => exact hb.elim
  | succ k => exact ⟨strOk_iff.mpr fun c hc => (h c hc).elim (strOk_iff.mp hb.1 c) id, by have := hb.2; omega⟩, by
  show y.length ≤ 2 * x.length + 200
  omega⟩
theorem sp_int {x : D} {i j : Int} (hx : ∀ m k, m ≤ 5 → Bd m k x → Bd m k (.int i)) (h0 : i.natAbs < 10 ^ 30) (hj : j.natAbs ≤ i.natAbs + 20) : SpP x (.int j) := ⟨fun m k hm hb => by
  have := hx m k hm hb
  cases k with
  | zero => exact hb.elim
  | succ k => exact Nat.le_trans hj (Nat.le_trans (Nat.add_le_add_right (show i.natAbs ≤ 10 ^ 29 + 100 * m from this) 20) (by omega)), by
  have e : j.natAbs < 2 ^ 100 := Nat.lt_of_le_of_lt hj (Nat.lt_trans (Nat.add_lt_add_right h0 20) (by decide))
  have : (PyData.int j).weight ≤ 200 := by
    show (if j == 0 then 0 else j.natAbs.log2 + 1) ≤ 200
    split
    · omega
    · by_cases z : j.natAbs = 0
      · rw [z]; decide
      · have := (Nat.log2_lt z).mpr e
        omega
  omega⟩
theorem sp_bool {x : D} {b : Bool} : SpP x (.bool b) := ⟨fun m k _ _ => trivial, Nat.zero_le _⟩
/-! ### readings -/
theorem wIfTail {c : WP Bool} {f r : WP Out} {ρ : Rho} {b : Nat} {Q : Out → Nat → Prop} (B : Nat → Prop) (hr : ∀ b', B b' → r.w ρ b' Q) (h : (∀ b', B b' → r.w ρ b' Q) → c.w ρ b fun k b1 => if k = true then (swSeq f r).w ρ b1 Q else r.w ρ b1 Q) : (swSeq (swIf c f swNil) r).w ρ b Q := by
  refine c.m (fun k b1 z => ?_) (h hr)
  cases k with
  | true => exact z
  | false => exact z
end Dl
namespace Dl
open PySem PySem.Spec PyProof.Rows L2 Rt
/-! ### a list of one's own that is only read from now on -/
theorem Mu.frz {M0 : Addr → Prop} {σ : L2.St} {ρ : Rho} {i : Nat} {d : D} (a : Addr) (m : Mu true M0 σ (ρ.set i (some (.dat d))) a) : Mu true M0 σ ρ a := by
  rcases m with m | ⟨_, j, ds, e1, e2⟩
  · exact .inl m
  · rcases set_get e1 with ⟨_, z⟩ | ⟨_, z⟩
    · cases z
    · exact .inr ⟨rfl, j, ds, z, e2⟩
theorem Rn.frz {g : Pl} {M0 : Addr → Prop} {H0 H : Hp} {σ : L2.St} {ρ : Rho} {b : Nat} {i : Nat} {ds : List D} (R : Rn g M0 H0 H σ ρ b) (ei : ρ[i]? = some (some (.own ds))) : Rn g M0 H0 H σ (ρ.set i (some (.dat (.list ds)))) b := by
  have sh : ∀ a, Mu true M0 σ (ρ.set i (some (.dat (.list ds)))) a → Mu true M0 σ ρ a ∨ H a = none := fun a m => .inl (Mu.frz a m)
  refine ⟨R.kp, R.dom0, R.dom, R.pl, R.iv, by rw [List.length_set]; exact R.len, fun j d' e => ?_, fun j ds' e => ?_, fun j w e => ?_, fun j e => ?_, fun j k a c p e1 e2 e3 e4 => ?_⟩
  · rcases set_get e with ⟨rfl, e9⟩ | ⟨n, e⟩
    · cases e9
      obtain ⟨p, vs, x, y, z, l, w⟩ := R.own i ds ei
      refine ⟨.ref p, x, .lst y (fun m => ?_) l (w.reM sh)⟩
      rcases m with m | ⟨_, j, ds', f1, f2⟩
      · exact R.dom0 p m z
      · rcases set_get f1 with ⟨_, q⟩ | ⟨n, q⟩
        · cases q
        · exact n (R.inj i j ds ds' p ei q x f2)
    · obtain ⟨w, x, y⟩ := R.dat j d' e
      exact ⟨w, x, y.reM sh⟩
  · rcases set_get e with ⟨_, z⟩ | ⟨_, z⟩
    · cases z
    · obtain ⟨p, vs, x, y, z, l, w⟩ := R.own j ds' z
      exact ⟨p, vs, x, y, z, l, w.reM sh⟩
  · rcases set_get e with ⟨_, z⟩ | ⟨_, z⟩
    · cases z
    · exact R.raw j w z
  · rcases set_get e with ⟨_, z⟩ | ⟨_, z⟩
    · cases z
    · exact R.pool j z
  · rcases set_get e1 with ⟨_, z⟩ | ⟨_, f1⟩
    · cases z
    rcases set_get e2 with ⟨_, z⟩ | ⟨_, f2⟩
    · cases z
    exact R.inj j k a c p f1 f2 e3 e4
def swFrz (i : Nat) (f : WP Out) : WP Out := ⟨fun ρ b Q => ∃ ds, ρ[i]? = some (some (.own ds)) ∧ f.w (ρ.set i (some (.dat (.list ds)))) b Q, fun h ⟨ds, e, z⟩ => ⟨ds, e, f.m h z⟩⟩
section
variable {X : Cx} {K : PySem.W.Frag}
theorem nS_frz {st : Stmt} {i : Nat} {f : WP Out} (h : PS X st (tSn f)) : PS X st (tSn (swFrz i f)) := h.wk fun Dn σ H q => by
  obtain ⟨g, M0, H0, ρ, b, R, ds, e, q⟩ := q
  exact ⟨g, M0, H0, _, b, R.frz e, f.m (fun o b' p => PostN.from ⟨.refl, fun a m => .inl (Mu.frz a m)⟩ p) q⟩
/-- a loop each of whose turns costs so much -/
theorem forN_cost {p : Pat} {body : WP Out} {Q : Out → Nat → Prop} (N c : Nat) (I : Nat → Rho → Prop) : ∀ (items : List D) (k : Nat) (ρ : Rho) (b : Nat), k + items.length ≤ N → I k ρ → items.length * c ≤ b → (∀ x ∈ items, ∀ k ρ b, k < N → I k ρ → c ≤ b → ∃ ρ1, bindP p x ρ = some ρ1 ∧ ∀ Q' : Out → Nat → Prop, (∀ ρ2 b2, I (k + 1) ρ2 → b ≤ b2 + c → Q' (.nx ρ2) b2) → body.w ρ1 b Q') → (∀ ρ' b', I (k + items.length) ρ' → b ≤ b' + items.length * c → Q (.nx ρ') b') → forN p body items ρ b Q
  | [], k, ρ, b, _, i, _, _, q => q ρ b i (by simp)
  | x :: xs, k, ρ, b, hN, i, hb, hs, q => by
    have e : (x :: xs).length * c = xs.length * c + c := by rw [List.length_cons, Nat.add_mul, Nat.one_mul]
    rw [e] at hb q
    rw [List.length_cons] at hN
    obtain ⟨ρ1, e1, hw⟩ := hs x (by simp) k ρ b (by omega) i (by omega)
    refine ⟨ρ1, e1, hw _ fun ρ2 b2 i2 h2 => forN_cost N c I xs (k + 1) ρ2 b2 (by omega) i2 (by omega) (fun y hy => hs y (by simp [hy])) fun ρ' b' i' h' => q ρ' b' ?_ (by omega)⟩
    rw [List.length_cons, show k + (xs.length + 1) = k + 1 + xs.length by omega]
    exact i'
/-- texts told apart -/
def neS : D → D → Option D
  | .str a, .str b => some (.bool (!(a == b)))
  | _, _ => none
theorem o_neS (hu : X.A.units + 64 < cLine) : OpR X (compareOp .NotEq) (rD neS) := by
  intro pn s σ H x y v u Q I rx ry h
  obtain ⟨M, a, b, d, dm, ra, rb, e, q⟩ := h
  cases ra <;> (try (cases rb <;> cases e; done))
  cases rb <;> (try (cases e; done))
  cases e
  obtain ⟨t, rfl⟩ := rx
  obtain ⟨t', rfl⟩ := ry
  exact SeqAt.RcNeAt.str_str _ _ _ _ _ _ _ _ ⟨.bl _, H, I, rfl, q _ _ (Same.refl _) (.bl _)⟩
end
/-! ### the law itself, where the table of modules is known to stand -/
theorem lawG2 {P : Program} {w : World} {K : PySem.W.Frag} {mg mb : Str → Option Value} {k : Nat} {fa a : Addr} {fd : FuncData} {x : Str} {sp : Sp} {s0 : Shared} {us : List Value} {ns : List Int}
    (inK : K.In s0.heap) (gl : s0.heap.Ns mainGlobals mg) (bl : s0.heap.Ns builtinsNs mb) (bb : ∀ x : Str, x ≠ "__name__" → mb x = bootBuiltins x) (nl : s0.heap.NoLimit) (sm : ∃ mm, s0.heap.Ns sysModules mm) (ng : s0.gens = #[])
    (sc : s0.heap.get? a = some { cls := .type "list", data := .seq us.toArray }) (hin : IntsAre us ns) (short : ns.length ≤ sizeLine) (room : Room k callerA)
    (F : ∀ base : Heap, K.In base → base.Ns mainGlobals mg → (∃ o, base.get? sysModules = some o) → FnG P w K mg base k fa fd [x] sp) (bd : ∀ (s : Shared) (u : Value), BindsTo s fd ⟨[u], []⟩ [(x, u)])
    (hsp : ∀ H : Hp, Only H → SqL K H a (ns.map V.int) → sp [.ref a] H (fun v _ => v = .bl true) E0) :
    codeAny (model P w) callerA (.call (.ref fa) ⟨[.ref a], []⟩) (fun r s2 => r = .ok (.ret (.bool true)) ∧ OldK s0.heap s2.heap ∧ s2.os = s0.os ∧ AllBare s2.gens) s0 := by
  have rel := vals_ints hin
  have main : ∀ H : Hp, Only H → SqL K H a (ns.map V.int) → HOk P w H s0.heap → (∀ b u, H b = some u → b = a ∧ K.lookup a = none) →
      codeAny (model P w) callerA (.call (.ref fa) ⟨[.ref a], []⟩) (fun r s2 => r = .ok (.ret (.bool true)) ∧ OldK s0.heap s2.heap ∧ s2.os = s0.os ∧ AllBare s2.gens) s0 := by
    intro H only seq hok just
    have free : ∀ {b : Addr}, (b = a → K.lookup a = none → False) → H b = none := fun {b} no => by
      cases z : H b with
      | none => rfl
      | some u => exact (no (just b u z).1 (just b u z).2).elim
    have spaces : ∀ {b : Addr} {m : Str → Option Value}, s0.heap.Ns b m → (hidT s0.heap H).Ns b m := fun {b m} h => by
      obtain ⟨o, es, ep, e, d, r⟩ := h
      refine ⟨o, es, ep, hidT_get e (free fun z _ => ?_), d, r⟩
      subst z
      rw [sc] at e
      cases e
      cases d
    have inB : K.In (hidT s0.heap H) := fun b o e => hidT_get (inK b o e) (free fun z n => by
      subst z
      rw [n] at e
      cases e)
    have md : Mod K mg (hidT s0.heap H) := by
      obtain ⟨mc, n1, n2⟩ := nl
      exact ⟨inB, spaces gl, ⟨mb, spaces bl, bb⟩, ⟨mc, spaces n1, n2⟩⟩
    have hsm : ∃ o, (hidT s0.heap H).get? sysModules = some o := by
      obtain ⟨mm, h⟩ := sm
      obtain ⟨o, _, _, e, _⟩ := spaces h
      exact ⟨o, e⟩
    have en : Env0 P w K mg (hidT s0.heap H) callerA [] s0 H := ⟨rfl, md, fun b o e => of_hidT e, Nat.le_of_eq (hidT_size _ _), trivial, (fun b z => nomatch (show b ∈ ([] : List Addr) from z)), hok, .of_eq ng⟩
    refine codeAny_mono ((F _ inB (spaces gl) hsm).goes callerA [] s0 H ⟨[.ref a], []⟩ [.ref a] [.ref a] _ _ room rfl en (bd s0 (.ref a)) (.cons rfl .nil) (hsp H only seq)) fun r s2 h => ?_
    match r, h with
    | .error e, h => exact (h : False).elim
    | .ok .next, h => exact (h : False).elim
    | .ok .brk, h => exact (h : False).elim
    | .ok .cont, h => exact (h : False).elim
    | .ok (.ret u), h =>
      obtain ⟨v, H2, os, bare, un, hok2, rv, rfl⟩ := h
      obtain rfl : u = Value.bool true := rv
      refine ⟨rfl, OldK.of_keep fun b o e => ?_, os, bare⟩
      rcases only b with z | ⟨ob, xs, z⟩
      · exact un.keep b o e z (fun m => nomatch (show b ∈ ([] : List Addr) from m)) (fun m => nomatch m)
      · have e1 := (hok b _ z).1
        have e2 := (hok2 b _ (un.frzs b ob _ z)).1
        rw [e] at e1
        cases e1
        exact e2
  cases own : K.lookup a with
  | some o =>
    have e := inK a o own
    rw [sc] at e
    cases e
    exact main (fun _ => none) (fun _ => .inl rfl) (.inr ⟨_, us.toArray, _, own, rfl, rfl, rfl, by rw [List.size_toArray, hin.length]; exact short, by simpa using rel⟩) (fun b u z => nomatch z) (fun b u z => nomatch z)
  | none =>
    refine main (fun b => if b = a then some (.frz { cls := .type "list", data := .seq us.toArray } (.lst (ns.map V.int))) else none) (fun b => ?_) (.inl (.inr ⟨{ cls := .type "list", data := .seq us.toArray }, if_pos rfl⟩)) (fun b u z => ?_) (fun b u z => ?_)
    · by_cases e : b = a
      · exact .inr ⟨_, _, if_pos e⟩
      · exact .inl (if_neg e)
    · by_cases e : b = a
      · have z2 := (if_pos e).symm.trans z
        cases z2
        subst e
        exact ⟨sc, by rw [List.length_map]; exact short, us, _, rel, sc⟩
      · exact nomatch ((if_neg e).symm.trans z)
    · by_cases e : b = a
      · exact ⟨e, own⟩
      · exact nomatch ((if_neg e).symm.trans z)
theorem walk_G2 {l : PySem.W.OpenLaw} {n k : Nat} {q : Program} {loose : List Str} {XP : (Str → Option Value) → Heap → Prop} {YP : World → Heap → Prop} {d : DefRec} {K : Params → PySem.W.Frag} {sp : World → Sp} {x : Str}
    (hi : importsNone q = true) (most : l.most = some n) (n2 : n ≤ sizeLine) (nd : d.params.defaults = []) (room : Room k callerA) (hY : ∀ (w : World) (h : Heap), YP w h → (K w.params).In h)
    (F : ∀ (w : World) (mg : Str → Option Value) (fa : Addr) (h : Heap), (K w.params).In h → h.Ns mainGlobals mg → mg d.name = some (.ref fa) →
      ∃ fd : FuncData, (∀ (s : Shared) (u : Value), BindsTo s fd ⟨[u], []⟩ [(x, u)]) ∧ ∀ base : Heap, (K w.params).In base → base.Ns mainGlobals mg → (∃ o, base.get? sysModules = some o) → FnG l.prog w (K w.params) mg base k fa fd [x] (sp w))
    (hsp : ∀ (w : World) (H : Hp) (a : Addr) (ns : List Int), ns.length ≤ n → Only H → SqL (K w.params) H a (ns.map V.int) → sp w [.ref a] H (fun v _ => v = .bl true) E0) :
    PySem.W.WalkO q loose XP YP l.row.toRowW d [] (fun f vs => PySem.call f vs) := by
  refine Att.attach_call most nd fun w sA sB mg mb fa o pm cd doc a us ns G Y ho hd hcd hmg hobj hints hlen hg => ?_
  obtain ⟨fd, hb, hF⟩ := F w mg fa _ (hY w _ Y) G.T.g hmg
  obtain ⟨mm, h1, _⟩ := (G.T.seer hi).mods
  exact lawG2 (hY w _ Y) G.T.g G.T.b G.T.builtins G.T.nolimit ⟨mm, h1⟩ hg hobj hints (Nat.le_trans hlen n2) room hF hb fun H only seq => hsp w H a ns hlen only seq
end Dl
namespace Rt
open PySem PySem.Spec PyProof.Rows L2
def topS (i : Nat) : Stmt := PySem.Challenge.pw_rightage_k00_worlds_judged.main.body.getD i (.Pass ⟨0, 0, 0, 0⟩)
abbrev s_is_number : Stmt := topS 12
theorem sc_is_number : FnScope ["thing"] ["thing"] (defScope s_is_number) := ⟨rfl, rfl, rfl, by decide +kernel, rfl, by decide +kernel, by decide +kernel⟩
abbrev s_is_number_from : Stmt := topS 13
theorem sc_is_number_from : FnScope ["thing", "low", "high"] ["thing", "low", "high"] (defScope s_is_number_from) := ⟨rfl, rfl, rfl, by decide +kernel, rfl, by decide +kernel, by decide +kernel⟩
abbrev s_is_name : Stmt := topS 14
theorem sc_is_name : FnScope ["thing", "sign"] ["thing"] (defScope s_is_name) := ⟨rfl, rfl, rfl, by decide +kernel, rfl, by decide +kernel, by decide +kernel⟩
abbrev s_is_row : Stmt := topS 15
theorem sc_is_row : FnScope ["thing", "fewest", "most"] ["thing", "fewest", "most"] (defScope s_is_row) := ⟨rfl, rfl, rfl, by decide +kernel, rfl, by decide +kernel, by decide +kernel⟩
abbrev s_is_rising : Stmt := topS 16
theorem sc_is_rising : FnScope ["row", "ahead", "behind"] ["row"] (defScope s_is_rising) := ⟨rfl, rfl, rfl, by decide +kernel, rfl, by decide +kernel, by decide +kernel⟩
abbrev s_worldfault : Stmt := topS 18
theorem sc_worldfault : FnScope ["thing", "span", "kinds", "sources", "ways"] ["thing"] (defScope s_worldfault) := ⟨rfl, rfl, rfl, by decide +kernel, rfl, by decide +kernel, by decide +kernel⟩
abbrev s_kinds_fault : Stmt := topS 19
theorem sc_kinds_fault : FnScope ["kinds", "k", "kind"] ["kinds"] (defScope s_kinds_fault) := ⟨rfl, rfl, rfl, by decide +kernel, rfl, by decide +kernel, by decide +kernel⟩
abbrev s_sources_fault : Stmt := topS 20
theorem sc_sources_fault : FnScope ["span", "kinds", "sources", "k", "source", "fault"] ["span", "kinds", "sources"] (defScope s_sources_fault) := ⟨rfl, rfl, rfl, by decide +kernel, rfl, by decide +kernel, by decide +kernel⟩
abbrev s_source_fault : Stmt := topS 21
theorem sc_source_fault : FnScope ["span", "kinds", "source", "kind", "age", "place", "since", "many"] ["span", "kinds", "source"] (defScope s_source_fault) := ⟨rfl, rfl, rfl, by decide +kernel, rfl, by decide +kernel, by decide +kernel⟩
abbrev s_ways_fault : Stmt := topS 22
theorem sc_ways_fault : FnScope ["span", "kinds", "ways", "k", "way", "fault"] ["span", "kinds", "ways"] (defScope s_ways_fault) := ⟨rfl, rfl, rfl, by decide +kernel, rfl, by decide +kernel, by decide +kernel⟩
abbrev s_way_fault : Stmt := topS 23
theorem sc_way_fault : FnScope ["span", "kinds", "way", "kind", "parts", "keeps", "hours", "wait", "fault"] ["span", "kinds", "way"] (defScope s_way_fault) := ⟨rfl, rfl, rfl, by decide +kernel, rfl, by decide +kernel, by decide +kernel⟩
abbrev s_parts_fault : Stmt := topS 24
theorem sc_parts_fault : FnScope ["kinds", "parts", "j", "part", "fault"] ["kinds", "parts"] (defScope s_parts_fault) := ⟨rfl, rfl, rfl, by decide +kernel, rfl, by decide +kernel, by decide +kernel⟩
abbrev s_part_fault : Stmt := topS 25
theorem sc_part_fault : FnScope ["kinds", "part", "kind", "least", "greatest"] ["kinds", "part"] (defScope s_part_fault) := ⟨rfl, rfl, rfl, by decide +kernel, rfl, by decide +kernel, by decide +kernel⟩
abbrev s_is_hours : Stmt := topS 26
theorem sc_is_hours : FnScope ["span", "hours", "hour"] ["span", "hours"] (defScope s_is_hours) := ⟨rfl, rfl, rfl, by decide +kernel, rfl, by decide +kernel, by decide +kernel⟩
abbrev s_fault_below : Stmt := topS 27
theorem sc_fault_below : FnScope ["path", "fault", "inner", "word"] ["path", "fault"] (defScope s_fault_below) := ⟨rfl, rfl, rfl, by decide +kernel, rfl, by decide +kernel, by decide +kernel⟩
abbrev s_law_draws : Stmt := topS 29
theorem sc_law_draws : FnScope ["_law_script", "_law_cells", "_law_cell"] ["_law_script"] (defScope s_law_draws) := ⟨rfl, rfl, rfl, by decide +kernel, rfl, by decide +kernel, by decide +kernel⟩
abbrev s_law_next : Stmt := topS 30
theorem sc_law_next : FnScope ["_law_drawn", "_law_below", "_law_cells", "_law_turn", "_law_rests", "_law_spot", "_law_digit", "_law_mixed", "_law_again"] ["_law_drawn", "_law_below"] (defScope s_law_next) := ⟨rfl, rfl, rfl, by decide +kernel, rfl, by decide +kernel, by decide +kernel⟩
abbrev s_law_one : Stmt := topS 31
theorem sc_law_one : FnScope ["_law_drawn", "_law_wares"] ["_law_drawn", "_law_wares"] (defScope s_law_one) := ⟨rfl, rfl, rfl, by decide +kernel, rfl, by decide +kernel, by decide +kernel⟩
abbrev s_law_alike : Stmt := topS 32
theorem sc_law_alike : FnScope ["_law_one_here", "_law_other", "_law_a", "_law_b"] ["_law_one_here", "_law_other"] (defScope s_law_alike) := ⟨rfl, rfl, rfl, by decide +kernel, rfl, by decide +kernel, by decide +kernel⟩
abbrev s_law_kinds : Stmt := topS 33
theorem sc_law_kinds : FnScope ["_law_drawn", "_law_many", "_law_stem", "_law_first", "_law_way_here", "_law_found", "_law_k"] ["_law_drawn", "_law_many"] (defScope s_law_kinds) := ⟨rfl, rfl, rfl, by decide +kernel, rfl, by decide +kernel, by decide +kernel⟩
abbrev s_law_source : Stmt := topS 34
theorem sc_law_source : FnScope ["_law_drawn", "_law_size", "_law_kinds_here", "_law_old", "_law_since", "_law_age", "_law_kind", "_law_place"] ["_law_drawn", "_law_size", "_law_kinds_here", "_law_old"] (defScope s_law_source) := ⟨rfl, rfl, rfl, by decide +kernel, rfl, by decide +kernel, by decide +kernel⟩
abbrev s_law_part : Stmt := topS 35
theorem sc_law_part : FnScope ["_law_drawn", "_law_kinds_here", "_law_old", "_law_least", "_law_greatest"] ["_law_drawn", "_law_kinds_here", "_law_old"] (defScope s_law_part) := ⟨rfl, rfl, rfl, by decide +kernel, rfl, by decide +kernel, by decide +kernel⟩
abbrev s_law_way : Stmt := topS 36
theorem sc_law_way : FnScope ["_law_drawn", "_law_size", "_law_kinds_here", "_law_old", "_law_parts", "_law_hours", "_law_keeps", "_law_k", "_law_place"] ["_law_drawn", "_law_size", "_law_kinds_here", "_law_old"] (defScope s_law_way) := ⟨rfl, rfl, rfl, by decide +kernel, rfl, by decide +kernel, by decide +kernel⟩
abbrev s_law_world : Stmt := topS 37
theorem sc_law_world : FnScope ["_law_drawn", "_law_wide", "_law_old", "_law_size", "_law_kinds_here", "_law_many", "_law_sources", "_law_ways", "_law_k"] ["_law_drawn", "_law_wide", "_law_old"] (defScope s_law_world) := ⟨rfl, rfl, rfl, by decide +kernel, rfl, by decide +kernel, by decide +kernel⟩
abbrev s_law_odd : Stmt := topS 38
theorem sc_law_odd : FnScope ["_law_drawn", "_law_some"] ["_law_drawn"] (defScope s_law_odd) := ⟨rfl, rfl, rfl, by decide +kernel, rfl, by decide +kernel, by decide +kernel⟩
abbrev s_law_spoilt : Stmt := topS 39
theorem sc_law_spoilt : FnScope ["_law_drawn", "_law_thing", "_law_spot", "_law_some"] ["_law_drawn", "_law_thing"] (defScope s_law_spoilt) := ⟨rfl, rfl, rfl, by decide +kernel, rfl, by decide +kernel, by decide +kernel⟩
abbrev s_law_is : Stmt := topS 40
theorem sc_law_is : FnScope ["_law_thing", "_law_low", "_law_high"] ["_law_thing", "_law_low", "_law_high"] (defScope s_law_is) := ⟨rfl, rfl, rfl, by decide +kernel, rfl, by decide +kernel, by decide +kernel⟩
abbrev s_law_name : Stmt := topS 41
theorem sc_law_name : FnScope ["_law_thing", "_law_sign"] ["_law_thing"] (defScope s_law_name) := ⟨rfl, rfl, rfl, by decide +kernel, rfl, by decide +kernel, by decide +kernel⟩
abbrev s_law_row_of : Stmt := topS 42
theorem sc_law_row_of : FnScope ["_law_thing", "_law_few", "_law_many"] ["_law_thing", "_law_few", "_law_many"] (defScope s_law_row_of) := ⟨rfl, rfl, rfl, by decide +kernel, rfl, by decide +kernel, by decide +kernel⟩
abbrev s_law_kind_in : Stmt := topS 43
theorem sc_law_kind_in : FnScope ["_law_kinds_here", "_law_thing"] ["_law_kinds_here", "_law_thing"] (defScope s_law_kind_in) := ⟨rfl, rfl, rfl, by decide +kernel, rfl, by decide +kernel, by decide +kernel⟩
abbrev s_law_rising : Stmt := topS 44
theorem sc_law_rising : FnScope ["_law_thing", "_law_many", "_law_one_here", "_law_k"] ["_law_thing", "_law_many"] (defScope s_law_rising) := ⟨rfl, rfl, rfl, by decide +kernel, rfl, by decide +kernel, by decide +kernel⟩
abbrev s_law_source_word : Stmt := topS 45
theorem sc_law_source_word : FnScope ["_law_size", "_law_kinds_here", "_law_source_here", "_law_words", "_law_k", "_law_word", "_law_low", "_law_high"] ["_law_size", "_law_kinds_here", "_law_source_here"] (defScope s_law_source_word) := ⟨rfl, rfl, rfl, by decide +kernel, rfl, by decide +kernel, by decide +kernel⟩
abbrev s_law_part_word : Stmt := topS 46
theorem sc_law_part_word : FnScope ["_law_kinds_here", "_law_part_here"] ["_law_kinds_here", "_law_part_here"] (defScope s_law_part_word) := ⟨rfl, rfl, rfl, by decide +kernel, rfl, by decide +kernel, by decide +kernel⟩
abbrev s_law_way_word : Stmt := topS 47
theorem sc_law_way_word : FnScope ["_law_size", "_law_kinds_here", "_law_way_here", "_law_k", "_law_wrong"] ["_law_size", "_law_kinds_here", "_law_way_here"] (defScope s_law_way_word) := ⟨rfl, rfl, rfl, by decide +kernel, rfl, by decide +kernel, by decide +kernel⟩
abbrev s_law_world_word : Stmt := topS 48
theorem sc_law_world_word : FnScope ["_law_thing", "_law_k", "_law_wrong"] ["_law_thing"] (defScope s_law_world_word) := ⟨rfl, rfl, rfl, by decide +kernel, rfl, by decide +kernel, by decide +kernel⟩
abbrev s_law : Stmt := topS 49
theorem sc_law : FnScope ["_law_script", "_law_drawn", "_law_world_here", "_law_some", "_law_turn", "_law_bent", "_law_thing", "_law_kept", "_law_found"] ["_law_script"] (defScope s_law) := ⟨rfl, rfl, rfl, by decide +kernel, rfl, by decide +kernel, by decide +kernel⟩
section
variable {P : Program} {w : World} {K : PySem.W.Frag} {mg : Str → Option Value} {base : Heap}

/-! ### _law_next -/
def spNext : Sp := fun vs H Q _ => ∃ (g : Gd) (B : Nat) (b : Int), vs = [.ref g.d, .int b] ∧ Fu g B H ∧ 1 ≤ B ∧ 0 < b ∧ b < 2 ^ 60 ∧
  ∀ v H', 0 ≤ v → v < b → Fu g (B - 1) H' → Kp g H H' → Q (.int v) H'
theorem ok_next {f : Addr} {fd : FuncData} {k : Nat} (F : Fun K "_law_next" "_law_next" s_law_next f fd) (m_len : mg "len" = none) : FnOk P w K mg base CX0 (k + 1) f fd ["_law_drawn", "_law_below"] spNext := by
  refine F.ok sc_law_next (fun vs H Q E h => ?_) (fun cdv A outer s H vs Q E hr h => ?_)
  · obtain ⟨g, B, b, rfl, _⟩ := h
    rfl
  · obtain ⟨g, B, b, rfl, ⟨t, D, hB⟩, hB1, hb0, hb, q⟩ := h
    obtain ⟨cs, hc, ec⟩ := D.hc
    obtain ⟨rs, hrr, er⟩ := D.hr
    have n0 := D.n0
    have n63 := D.n63
    have t0 := D.t0
    refine ⟨_, (pss_cons (ps_asg (pv 0) (pg_unl rfl (pgs_cons (pg_name (i := 2) sc_law_next.nd rfl (.inl rfl)) (pgs_cons (pg_name (i := 3) sc_law_next.nd rfl (.inl rfl)) (pgs_cons (pg_name (i := 4) sc_law_next.nd rfl (.inl rfl)) pgs_nil)))))
  (pss_cons (ps_set (i := 5) sc_law_next.nd rfl (.inl rfl) (pe_op op_modL (pv 3) (pe_callB call_len (by rfl) m_len (by decide +kernel) (pa_cons (pv 2) pa_nil))))
  (pss_cons (ps_asg (pe_op op_addL (pv 3) pe_int) (pg_sub (pv 0) pe_int set_listL))
  (pss_cons (ps_if (pt_cmpR op_gt (pe_ix ix_list (pv 4) (pv 5) (fun _ _ => rfl)) pe_int (nomark _))
    (pss_cons (ps_set (i := 6) sc_law_next.nd rfl (.inl rfl) (pe_op op_modL (pe_ix ix_list (pv 4) (pv 5) (fun _ _ => rfl)) (pv 1)))
  (pss_cons (ps_asg (pe_op op_divL (pe_ix ix_list (pv 4) (pv 5) (fun _ _ => rfl)) (pv 1)) (pg_sub (pv 4) (pv 5) set_listL))
  (pss_one (ps_ret (pv 6)))))
    pss_nil)
  (pss_cons (ps_set (i := 7) sc_law_next.nd rfl (.inl rfl) (pe_op op_modL (pe_op op_powL (pe_op op_addL (pe_op op_addL (pe_op op_modL (pe_ix ix_list (pv 2) (pv 5) (fun _ _ => rfl)) pe_int) (pe_op op_mulL pe_int (pv 3))) pe_int) pe_int) pe_int))
  (pss_cons (ps_set (i := 8) sc_law_next.nd rfl (.inl rfl) (pe_op op_modL (pe_op op_powL (pe_op op_addL (pe_op op_addL (pv 7) (pe_op op_mulL (pe_op op_mulL pe_int (pv 3)) (pv 3))) pe_int) pe_int) pe_int))
  (pss_one (ps_ret (pe_op op_modL (pe_op op_modL (pe_op op_addL (pe_op op_mulL (pv 8) pe_int) (pv 7)) pe_int) (pv 1)))))))))), ?_⟩
    -- cells, turn, rests = drawn
    refine ⟨.ref g.d, rfl, g.d, _, rfl, SqL.of D.hd, rfl, .ref g.c, _, rfl, .int t, _, rfl, .ref g.r, _, rfl, rfl, ?_⟩
    -- spot = turn % len(cells)
    refine ⟨.int t, rfl, .ref g.c, rfl, .ref g.c, g.n, rfl, .inl ⟨_, SqL.of hc, by rw [List.length_map, ec]⟩, t, (g.n : Int), rfl, rfl, by omega, fun sp esp hs0 hs1 => ?_⟩
    -- drawn[1] = turn + 1
    refine ⟨.int t, rfl, t, 1, rfl, rfl, fun t1 et1 => ⟨.ref g.d, rfl, g.d, _, 1, 1, rfl, rfl, D.hd, rfl, fun H1 eH1 => ?_⟩⟩
    have eH1 : H1 = upd H g.d (.lst [.ref g.c, .int t1, .ref g.r]) := eH1
    have D1 : Dr g t1 H1 := by
      subst eH1
      exact ⟨upd_same, ⟨cs, by rw [upd_ne D.dc.symm]; exact hc, ec⟩, ⟨rs, by rw [upd_ne D.dr.symm]; exact hrr, er⟩, D.dc, D.dr, D.cr, D.n0, D.n63, by omega⟩
    have K1 : Kp g H H1 := fun p o h1 h2 e => by
      subst eH1
      rw [upd_ne h1]
      exact e
    have hc1 : H1 g.c = some (.lst (cs.map V.int)) := by subst eH1; rw [upd_ne D.dc.symm]; exact hc
    have hr1 : H1 g.r = some (.lst (rs.map V.int)) := by subst eH1; rw [upd_ne D.dr.symm]; exact hrr
    -- if rests[spot] > 0
    obtain ⟨rv, hrv, rmem, _⟩ := atI_in (xs := rs.map V.int) (i := sp) hs0 (by rw [List.length_map, er]; exact hs1)
    obtain ⟨x, xm, rfl⟩ := List.mem_map.mp rmem
    obtain ⟨cv, hcv, cmem, _⟩ := atI_in (xs := cs.map V.int) (i := sp) hs0 (by rw [List.length_map, ec]; exact hs1)
    obtain ⟨y, ym, rfl⟩ := List.mem_map.mp cmem
    refine ⟨.ref g.r, rfl, .int sp, rfl, g.r, _, sp, _, rfl, rfl, SqL.of hr1, hrv, x, 0, rfl, rfl, _, rfl, ite2 (fun e => ?_) (fun e => ?_)⟩
    · -- a digit of a great cell
      refine ⟨.ref g.r, rfl, .int sp, rfl, g.r, _, sp, _, rfl, rfl, SqL.of hr1, hrv, .int b, rfl, x, b, rfl, rfl, hb0, fun dg edg hd0 hd1 => ?_⟩
      refine ⟨.ref g.r, rfl, .int sp, rfl, g.r, _, sp, _, rfl, rfl, SqL.of hr1, hrv, .int b, rfl, x, b, rfl, rfl, wide_div (b := 60) hb0 (by omega) (by decide) (by decide), fun z ez => ?_⟩
      refine ⟨.ref g.r, rfl, .int sp, rfl, g.r, _, sp, sp.toNat, rfl, rfl, hr1, ixN_in hs0 (by rw [List.length_map, er]; exact hs1), fun H2 eH2 => ?_⟩
      refine ⟨.int dg, rfl, ?_⟩
      have em : (rs.map V.int).set sp.toNat (.int z) = (rs.set sp.toNat z).map V.int := by rw [List.map_set]
      rw [em] at eH2
      subst eH2
      refine q _ _ hd0 hd1 ⟨t1, ⟨?_, ⟨cs, ?_, ec⟩, ⟨_, upd_same, by rw [List.length_set, er]⟩, D.dc, D.dr, D.cr, D.n0, D.n63, by omega⟩, by omega⟩ (fun p o h1 h2 e => ?_)
      · rw [upd_ne D.dr]; exact D1.hd
      · rw [upd_ne D.cr]; exact hc1
      · rw [upd_ne h2]; exact K1 p o h1 h2 e
    · -- a mixed one
      have ht : t ≤ 1000000 := by omega
      have htt0 : 0 ≤ 4409 * t * t := Int.mul_nonneg (by omega) t0
      have htt1 : 4409 * t * t ≤ 4409 * 1000000 * 1000000 := Int.mul_le_mul (by omega) ht t0 (by decide)
      refine ⟨.ref g.c, rfl, .int sp, rfl, g.c, _, sp, _, rfl, rfl, SqL.of hc1, hcv, y, 2147483629, rfl, rfl, by decide, fun y1 ey1 hy0 hy1 => ?_⟩
      refine ⟨.int t, rfl, 30011, t, rfl, rfl, .inl ⟨by decide, by decide⟩, fun y2 ey2 => ⟨y1, y2, rfl, rfl, fun y3 ey3 => ⟨y3, 5171, rfl, rfl, fun y4 ey4 => ⟨y4, 3, rfl, rfl, by decide, by decide, by omega, fun y5 ey5 => ⟨y5, 2147483587, rfl, rfl, by decide, fun m em hm0 hm1 => ?_⟩⟩⟩⟩⟩
      refine ⟨.int m, rfl, .int t, rfl, 4409, t, rfl, rfl, .inl ⟨by decide, by decide⟩, fun u1 eu1 => ⟨.int t, rfl, u1, t, rfl, rfl, .inl ⟨by omega, by omega⟩, fun u2 eu2 => ⟨m, u2, rfl, rfl, fun u3 eu3 => ⟨u3, 13, rfl, rfl, fun u4 eu4 => ⟨u4, 3, rfl, rfl, by decide, by decide, ?_, fun u5 eu5 => ⟨u5, 2147483563, rfl, rfl, by decide, fun a ea ha0 ha1 => ?_⟩⟩⟩⟩⟩⟩
      · subst eu1
        omega
      · refine ⟨.int a, rfl, a, 2147483423, rfl, rfl, .inl ⟨by omega, by omega⟩, fun v1 ev1 => ⟨.int m, rfl, v1, m, rfl, rfl, fun v2 ev2 => ⟨v2, 4611686018427387847, rfl, rfl, by decide, fun v3 ev3 hv0 hv1 => ⟨.int b, rfl, v3, b, rfl, rfl, hb0, fun v4 ev4 hv2 hv3 => ?_⟩⟩⟩⟩
        exact q _ _ hv2 hv3 ⟨t1, D1, by omega⟩ K1
end
end Rt
namespace Rt
open PySem PySem.Spec PyProof.Rows L2
theorem sm_new {H : Hp} {p : Addr} {o : HO} (h : H p = none) : Same H (upd H p o) := fun b x e => by
  rw [upd_ne (ne_of_none e h)]
  exact e
theorem sm_mut {H H' : Hp} {p : Addr} {o : HO} (e : Same H H') (h : H p = none) : Same H (upd H' p o) := fun b x z => by
  rw [upd_ne (ne_of_none z h)]
  exact e b x z
theorem cut63 (ns : List Int) : cutV (ns.map V.int) none (some 63) = (ns.take 63).map V.int := by
  unfold cutV
  rw [show HT.sIx (ns.map V.int).length (ns.map V.int).length (some 63) = min 63 (ns.map V.int).length from HT.sIx_nat _ _ 63, HT.sIx_none, List.drop_zero, List.map_take, Nat.sub_zero]
  rw [← List.take_take]
  rw [List.take_length]
theorem ne_of_some {H : Hp} {p q : Addr} {o : HO} (h : H p = some o) (n : H q = none) : q ≠ p := fun e => by
  rw [e, h] at n
  cases n
section
variable {P : Program} {w : World} {K : PySem.W.Frag} {mg : Str → Option Value} {base : Heap}

def spDraws (K : PySem.W.Frag) : Sp := fun vs H Q _ => ∃ (a : Addr) (ns : List Int), vs = [.ref a] ∧ SqL K H a (ns.map V.int) ∧ ns.length ≤ 63 ∧
  ∀ g H', Same H H' → Fu g 1000000 H' → Q (.ref g.d) H'
theorem ok_draws {f : Addr} {fd : FuncData} {k : Nat} (F : Fun K "_law_draws" "_law_draws" s_law_draws f fd) (m_len : mg "len" = none) (m_list : mg "list" = none) (m_int : mg "int" = none) : FnOk P w K mg base CX0 (k + 1) f fd ["_law_script"] (spDraws K) := by
  refine F.ok sc_law_draws (fun vs H Q E h => ?_) (fun cdv A outer s H vs Q E hr h => ?_)
  · obtain ⟨a, ns, rfl, _⟩ := h
    rfl
  · obtain ⟨a, ns, rfl, hS, hn, q⟩ := h
    refine ⟨_, (pss_cons (ps_set (i := 1) sc_law_draws.nd rfl (.inl rfl) (pe_op op_cat (pe_callTy call_list_of (by rfl) m_list (by decide +kernel) (pa_cons (pe_slice sl_list (pv 0) po_none (po_some pe_int)) pa_nil)) (pe_op op_rep (pe_lstL (pa_cons pe_int pa_nil)) (pe_callTy call_int1 (by rfl) m_int (by decide +kernel) (pa_cons (pe_cmpR op_eq (pe_callB call_len (by rfl) m_len (by decide +kernel) (pa_cons (pv 0) pa_nil)) pe_int (nomark _)) pa_nil)))))
  (pss_one (ps_ret (pe_lstL (pa_cons (pv 1) (pa_cons pe_int (pa_cons (pe_lc (own := [("_law_cell", 2)]) (g := (gName 2)) (tt := tYes) rfl sc_law_draws.nd (pi_list (pv 1)) (blkOk_by (own := [("_law_cell", 2)]) (N := ["_law_script", "_law_cells", "_law_cell"]) (sc := defScope s_law_draws) (by decide +kernel)) (fun _ _ _ _ _ => (pg_name (i := 2) sc_law_draws.nd rfl (.inl rfl))) (fun _ _ _ _ _ => pts_nil) (fun _ _ _ _ _ => (pe_op op_mulL (pv 2) (pe_callTy call_int1 (by rfl) m_int (by decide +kernel) (pa_cons (pe_cmpR op_ge (pv 2) (pe_op op_powL pe_int pe_int) (nomark _)) pa_nil))))) pa_nil))))))), ?_⟩
    -- list(script[:63])
    refine ⟨.ref a, rfl, 63, rfl, a, ns.map V.int, rfl, hS, fun c0 n0 => ⟨c0, _, rfl, .inl (SqL.of upd_same), fun l nl => ?_⟩⟩
    rw [cut63]
    have s1 : Same H (upd (upd H c0 (.lst ((ns.take 63).map V.int))) l (.lst ((ns.take 63).map V.int))) := sm_mut (sm_new n0) (by
      cases e : H l with
      | none => rfl
      | some o => rw [sm_new n0 _ _ e] at nl; cases nl)
    generalize eH1 : upd (upd H c0 (.lst ((ns.take 63).map V.int))) l (.lst ((ns.take 63).map V.int)) = H1 at s1 ⊢
    have hl1 : H1 l = some (.lst ((ns.take 63).map V.int)) := by rw [← eH1]; exact upd_same
    -- [0] * int(len(script) == 0)
    refine ⟨by decide, fun p2 H2 np2 eH2 => ⟨.ref a, rfl, .ref a, ns.length, rfl, .inl ⟨_, (s1.trans (by rw [eH2]; exact sm_new np2)).seq hS, by rw [List.length_map]⟩, rfl, .inr ⟨_, rfl, ?_⟩⟩⟩
    have s2 : Same H1 H2 := by rw [eH2]; exact sm_new np2
    have hp2 : H2 p2 = some (.lst [.int 0]) := by rw [eH2]; exact upd_same
    have hl2 := s2 _ _ hl1
    obtain ⟨j, ej, hj⟩ : ∃ j : Nat, (if decide (V.int (ns.length : Int) = V.int 0) = true then (1 : Int) else 0) = (j : Int) ∧ (j = 1 ∧ ns.length = 0 ∨ j = 0 ∧ 0 < ns.length) := by
      by_cases e0 : ns.length = 0
      · exact ⟨1, by rw [e0]; rfl, .inl ⟨rfl, e0⟩⟩
      · refine ⟨0, ?_, .inr ⟨rfl, by omega⟩⟩
        rw [if_neg]
        · rfl
        · intro z
          have z2 := V.int.inj (of_decide_eq_true z)
          omega
    refine ⟨p2, (j : Int), [.int 0], rfl, by rw [← ej], hp2, by omega, by omega, by show 1 * (j : Int).toNat ≤ _; exact sz (by omega), fun p3 np3 => ?_⟩
    have el : (List.replicate ((j : Int).toNat) [V.int 0]).flatten = (List.replicate j (0 : Int)).map V.int := by
      rw [Int.toNat_natCast]
      rcases hj with ⟨rfl, _⟩ | ⟨rfl, _⟩ <;> rfl
    rw [el]
    have hl3 : upd H2 p3 (.lst ((List.replicate j (0 : Int)).map V.int)) l = some (.lst ((ns.take 63).map V.int)) := sm_new np3 _ _ hl2
    refine ⟨l, p3, _, _, rfl, rfl, hl3, upd_same, ?_, fun c nc => ?_⟩
    · rw [List.length_map, List.length_map, List.length_take, List.length_replicate]
      exact sz (by omega)
    rw [← List.map_append]
    generalize ecs : ns.take 63 ++ List.replicate j (0 : Int) = cs
    have lcs : 0 < cs.length ∧ cs.length ≤ 63 := by
      rw [← ecs, List.length_append, List.length_take, List.length_replicate]
      omega
    have s3 : Same H2 (upd (upd H2 p3 (.lst ((List.replicate j (0 : Int)).map V.int))) c (.lst (cs.map V.int))) := (sm_new np3).trans (sm_new nc)
    generalize eH3 : upd (upd H2 p3 (.lst ((List.replicate j (0 : Int)).map V.int))) c (.lst (cs.map V.int)) = H3 at s3 ⊢
    have hc3 : H3 c = some (.lst (cs.map V.int)) := by rw [← eH3]; exact upd_same
    have sH3 : Same H H3 := (s1.trans s2).trans s3
    -- the rests
    refine ⟨.ref c, rfl, .ref c, rfl, c, rfl, ⟨_, SqL.of hc3⟩, fun D nD => ?_⟩
    have oc : D ≠ c := ne_of_some hc3 nD
    refine lc_list (K := K) (a := c) (xs := cs.map V.int) (fun i H' => Same H3 H' ∧ ∃ rs : List Int, H' D = some (.lst (rs.map V.int)) ∧ rs.length = i) ⟨sm_new nD, [], upd_same, rfl⟩ (fun i H' _ h => SqL.of (h.1 _ _ hc3)) (fun i x H' hx h => ?_) (fun H4 h => ?_)
    · obtain ⟨sm, rs, eD, er⟩ := h
      have hi : i < (cs.map V.int).length := (List.getElem?_eq_some_iff.mp hx).1
      rw [List.length_map] at hi
      obtain ⟨z, rfl⟩ : ∃ z, x = V.int z := by
        rw [List.getElem?_map, List.getElem?_eq_getElem hi] at hx
        exact ⟨_, (Option.some.inj hx).symm⟩
      refine ⟨rfl, .int z, rfl, .int z, rfl, 10, 18, rfl, rfl, by decide, by decide, by decide, fun y ey => ⟨z, y, rfl, rfl, .inr ⟨_, rfl, ?_⟩⟩⟩
      refine ⟨z, _, rfl, rfl, .inr ?_, fun v ev => ⟨_, eD, ?_, sm_mut sm nD, rs ++ [v], ?_, ?_⟩⟩
      · split <;> decide
      · rw [List.length_map, er]
        exact szl (by omega)
      · rw [upd_same, List.map_append]
        rfl
      · rw [List.length_append, er]
        rfl
    · obtain ⟨sm, rs, eD, er⟩ := h
      rw [List.length_map] at er
      refine ⟨sz (n := 3) (by decide), fun d H5 nd eH5 => ?_⟩
      have hc4 := sm _ _ hc3
      subst eH5
      refine q ⟨d, c, D, cs.length⟩ _ (sH3.trans (sm.trans (sm_new nd))) ⟨0, ⟨upd_same, ⟨cs, sm_new nd _ _ hc4, rfl⟩, ⟨rs, sm_new nd _ _ eD, er⟩, ne_of_some hc4 nd, ne_of_some eD nd, oc.symm, lcs.1, lcs.2, by decide⟩, by decide⟩
/-! ### _law_one -/
def spOne (K : PySem.W.Frag) : Sp := fun vs H Q _ => ∃ (g : Gd) (B : Nat) (x : V), vs = [.ref g.d, x] ∧ Fu g B H ∧ 1 ≤ B ∧
  ((∃ p xs, x = .ref p ∧ g.Off p ∧ H p = some (.lst xs) ∧ 0 < xs.length ∧ xs.length ≤ 1000 ∧ ∀ v H', v ∈ xs → Fu g (B - 1) H' → Kp g H H' → Q v H') ∨
   (∃ p xs, x = .ref p ∧ H p = some (.tup xs) ∧ 0 < xs.length ∧ xs.length ≤ 1000 ∧ ∀ v H', v ∈ xs → Fu g (B - 1) H' → Kp g H H' → Q v H') ∨
   (∃ z : Str, x = .str z ∧ 0 < z.length ∧ z.length ≤ 1000 ∧ ∀ (c : Nat) H', c ∈ z.cps.toList → Fu g (B - 1) H' → Kp g H H' → Q (.str ⟨#[c]⟩) H'))
theorem ok_one {f : Addr} {fd : FuncData} (F : Fun K "_law_one" "_law_one" s_law_one f fd) (m_len : mg "len" = none) (C__law_next : Cl P w K mg base 1 "_law_next" ["_law_drawn", "_law_below"] spNext) : FnOk P w K mg base CX0 2 f fd ["_law_drawn", "_law_wares"] (spOne K) := by
  refine F.ok sc_law_one (fun vs H Q E h => ?_) (fun cdv A outer s H vs Q E hr h => ?_)
  · obtain ⟨g, B, x, rfl, _⟩ := h
    rfl
  · obtain ⟨g, B, x, rfl, hF, hB, h⟩ := h
    refine ⟨_, (pss_one (ps_ret (pe_ix ix_seq (pv 1) (pe_cl C__law_next (hr.mono (by omega)) (by rfl) (pa_cons (pv 0) (pa_cons (pe_callB call_len (by rfl) m_len (by decide +kernel) (pa_cons (pv 1) pa_nil)) pa_nil))) (fun _ _ => rfl)))), ?_⟩
    rcases h with ⟨p, xs, rfl, oP, hp, h0, h1, q⟩ | ⟨p, xs, rfl, hp, h0, h1, q⟩ | ⟨z, rfl, h0, h1, q⟩
    · refine ⟨.ref p, rfl, .ref g.d, rfl, .ref p, rfl, .ref p, xs.length, rfl, .inl ⟨_, SqL.of hp, rfl⟩, g, B, (xs.length : Int), rfl, hF, hB, by omega, by omega, fun i H' i0 i1 F' K' => .inl ?_⟩
      obtain ⟨v, hv, vm, _⟩ := atI_in (xs := xs) i0 i1
      exact ⟨p, xs, i, v, rfl, rfl, SqL.of (K'.off oP hp), hv, q v H' vm F' K'⟩
    · refine ⟨.ref p, rfl, .ref g.d, rfl, .ref p, rfl, .ref p, xs.length, rfl, .inr ⟨_, SqT.of hp, rfl⟩, g, B, (xs.length : Int), rfl, hF, hB, by omega, by omega, fun i H' i0 i1 F' K' => .inr (.inl ?_)⟩
      obtain ⟨v, hv, vm, _⟩ := atI_in (xs := xs) i0 i1
      exact ⟨p, xs, i, v, rfl, rfl, SqT.of (hF.tk K' p xs hp), hv, q v H' vm F' K'⟩
    · refine ⟨.str z, rfl, .ref g.d, rfl, .str z, rfl, .str z, z.length, rfl, ⟨sz (by omega), rfl⟩, g, B, (z.length : Int), rfl, hF, hB, by omega, by omega, fun i H' i0 i1 F' K' => .inr (.inr ?_)⟩
      have ez : z.cps.toList.length = z.length := by simp [Str.length]
      obtain ⟨c, hc, cm, _⟩ := atI_in (xs := z.cps.toList) i0 (by rw [ez]; exact i1)
      exact ⟨z, i, c, rfl, rfl, sz (by omega), hc, q c H' cm F' K'⟩
end
end Rt
namespace Dl
open PySem PySem.Spec PyProof.Rows L2 Rt

theorem isi_int (d : D) : isTy "int" d = some (.bool (match d with | .int _ => true | .bool _ => true | _ => false)) := by
  cases d <;> (unfold isTy tyN; first | rw [show kitB "NoneType" "int" = some false by decide +kernel] | rw [show kitB "bool" "int" = some true by decide +kernel] | rw [show kitB "int" "int" = some true by decide +kernel] | rw [show kitB "str" "int" = some false by decide +kernel] | rw [show kitB "list" "int" = some false by decide +kernel] | rw [show kitB "tuple" "int" = some false by decide +kernel] | rw [show kitB "dict" "int" = some false by decide +kernel]) <;> rfl
theorem isi_bool (d : D) : isTy "bool" d = some (.bool (match d with | .bool _ => true | _ => false)) := by
  cases d <;> (unfold isTy tyN; first | rw [show kitB "NoneType" "bool" = some false by decide +kernel] | rw [show kitB "bool" "bool" = some true by decide +kernel] | rw [show kitB "int" "bool" = some false by decide +kernel] | rw [show kitB "str" "bool" = some false by decide +kernel] | rw [show kitB "list" "bool" = some false by decide +kernel] | rw [show kitB "tuple" "bool" = some false by decide +kernel] | rw [show kitB "dict" "bool" = some false by decide +kernel]) <;> rfl
theorem isi_tuple (d : D) : isTy "tuple" d = some (.bool (match d with | .tuple _ => true | _ => false)) := by
  cases d <;> (unfold isTy tyN; first | rw [show kitB "NoneType" "tuple" = some false by decide +kernel] | rw [show kitB "bool" "tuple" = some false by decide +kernel] | rw [show kitB "int" "tuple" = some false by decide +kernel] | rw [show kitB "str" "tuple" = some false by decide +kernel] | rw [show kitB "list" "tuple" = some false by decide +kernel] | rw [show kitB "tuple" "tuple" = some true by decide +kernel] | rw [show kitB "dict" "tuple" = some false by decide +kernel]) <;> rfl
theorem isi_str (d : D) : isTy "str" d = some (.bool (match d with | .str _ => true | _ => false)) := by
  cases d <;> (unfold isTy tyN; first | rw [show kitB "NoneType" "str" = some false by decide +kernel] | rw [show kitB "bool" "str" = some false by decide +kernel] | rw [show kitB "int" "str" = some false by decide +kernel] | rw [show kitB "str" "str" = some true by decide +kernel] | rw [show kitB "list" "str" = some false by decide +kernel] | rw [show kitB "tuple" "str" = some false by decide +kernel] | rw [show kitB "dict" "str" = some false by decide +kernel]) <;> rfl
/-! ### what the values are -/
def isNum : D → Bool
  | .int _ => true
  | _ => false
def isFrom (lo hi : Int) : D → Bool
  | .int i => decide (lo ≤ i) && decide (i ≤ hi)
  | _ => false
def isRow (lo hi : Int) : D → Bool
  | .tuple ds => decide (lo ≤ ds.length) && decide ((ds.length : Int) ≤ hi)
  | _ => false
def sNum : List D → Option D
  | [d] => some (.bool (isNum d))
  | _ => none
def sFrom : List D → Option D
  | [d, .int lo, .int hi] => some (.bool (isFrom lo hi d))
  | _ => none
def sRow : List D → Option D
  | [d, .int lo, .int hi] => some (.bool (isRow lo hi d))
  | _ => none
section
variable {P : Program} {w : World} {K : PySem.W.Frag} {mg : Str → Option Value} {base : Heap}
theorem ok_num {f : Addr} {fd : FuncData} (F : Fun K "is_number" "is_number" s_is_number f fd) (m_isinstance : mg "isinstance" = none) (m_int : mg "int" = none) (m_bool : mg "bool" = none) : FnOk P w K mg base CX0 1 f fd ["thing"] (spD 1 sNum) := by
  refine okFn F sc_is_number rfl fun cdv A outer s H E hr => ⟨_, (dSs_one (dS_ret (ps_ret (dE_and (dE_isi (dE_var (μ := true) (pv 0)) (pe_bltn (v := .ty "int") (by rfl) m_int (by decide +kernel) rfl) (by rfl) m_isinstance (by decide +kernel)) (dE_one (dE_not (dE_isi (dE_var (μ := true) (pv 0)) (pe_bltn (v := .ty "bool") (by rfl) m_bool (by decide +kernel) rfl) (by rfl) m_isinstance (by decide +kernel)))))))), fun ds d l e => ?_⟩
  match ds, e with
  | [x], e =>
    cases e
    refine ⟨.rt (.bool (isNum x)), ?_, rfl⟩
    simp only [startR, sRet, eAnd, eNot, e1, eVar, isi_int, isi_bool]
    cases x <;> rfl
theorem ok_from {f : Addr} {fd : FuncData} (F : Fun K "is_number_from" "is_number_from" s_is_number_from f fd) (C_is_number : Cl P w K mg base 1 "is_number" ["thing"] (spD 1 sNum)) : FnOk P w K mg base CX0 2 f fd ["thing", "low", "high"] (spD 3 sFrom) := by
  refine okFn F sc_is_number_from rfl fun cdv A outer s H E hr => ⟨_, (dSs_one (dS_ret (ps_ret (dE_and (dE_cl C_is_number (hr.mono (by omega)) (by rfl) (dA_cons (dE_var (μ := true) (pv 0)) (dA_nil (μ := true)))) (dE_one (dE_chain o_le o_le (dE_var (μ := true) (pv 1)) (dE_var (μ := true) (pv 0)) (dE_var (μ := true) (pv 2)))))))), fun ds d l e => ?_⟩
  match ds, e with
  | [x, .int lo, .int hi], e =>
    cases e
    refine ⟨.rt (.bool (isFrom lo hi x)), ?_, rfl⟩
    cases x <;> try rfl
    rename_i i
    by_cases h : lo ≤ i <;> simp [startR, sRet, eAnd, eCall, gN, aCons, aNil, sNum, eVar, eChain, isNum, isFrom, leD, bB, h]
theorem ok_row {f : Addr} {fd : FuncData} (F : Fun K "is_row" "is_row" s_is_row f fd) (m_isinstance : mg "isinstance" = none) (m_tuple : mg "tuple" = none) (m_len : mg "len" = none) : FnOk P w K mg base CX0 1 f fd ["thing", "fewest", "most"] (spD 3 sRow) := by
  refine okFn F sc_is_row rfl fun cdv A outer s H E hr => ⟨_, (dSs_one (dS_ret (ps_ret (dE_and (dE_isi (dE_var (μ := true) (pv 0)) (pe_bltn (v := .ty "tuple") (by rfl) m_tuple (by decide +kernel) rfl) (by rfl) m_isinstance (by decide +kernel)) (dE_one (dE_chain o_le o_le (dE_var (μ := true) (pv 1)) (dE_callB c_len (by rfl) m_len (by decide +kernel) (dA_cons (dE_var (μ := true) (pv 0)) (dA_nil (μ := true)))) (dE_var (μ := true) (pv 2)))))))), fun ds d l e => ?_⟩
  match ds, e with
  | [x, .int lo, .int hi], e =>
    cases e
    refine ⟨.rt (.bool (isRow lo hi x)), ?_, rfl⟩
    simp only [startR, sRet, eAnd, e1, eVar, isi_tuple]
    cases x <;> try rfl
    rename_i xs
    by_cases h : lo ≤ xs.length <;> simp [isi_tuple, eChain, eCall, aCons, aNil, lenD, eVar, isRow, leD, bB, h]
end
end Dl
namespace Dl
open PySem PySem.Spec PyProof.Rows L2 Rt
def S (x : String) : D := .str (Str.ofString x)
/-- a fault: its path and its word -/
def flt (path : List Int) (word : String) : D := .tuple [.tuple (path.map .int), S word]
def kindIn (ks : List D) (a : D) : Bool := ks.any fun z => PyData.eqv z a
def srcF (n : Int) (ks : List D) : D → D
  | .tuple [a, b, c, e, f] => if kindIn ks a = false then flt [0] "kind" else if isFrom 0 20 b = false then flt [1] "age" else if isFrom 0 (n - 1) c = false then flt [2] "place" else if isFrom 0 1000000 e = false then flt [3] "since" else if isFrom 1 9 f = false then flt [4] "many" else .none
  | _ => flt [] "source"
def sSrc : List D → Option D
  | [.int n, .tuple ks, d] => if (okK (.tuple ks) && gq d) = true then some (srcF n ks d) else none
  | _ => none
theorem isRow_five {d : D} (h : isRow 5 5 d = true) : ∃ a b c e f, d = .tuple [a, b, c, e, f] := by
  cases d <;> try (cases h; done)
  rename_i ds
  have : ds.length = 5 := by
    simp [isRow] at h
    omega
  match ds, this with
  | [a, b, c, e, f], _ => exact ⟨a, b, c, e, f, rfl⟩
section
variable {P : Program} {w : World} {K : PySem.W.Frag} {mg : Str → Option Value} {base : Heap}
theorem ok_src {f : Addr} {fd : FuncData} {t1 t2 t3 : Tok} (F : Fun K "source_fault" "source_fault" s_source_fault f fd) (g_OLD : mg "OLD" = some (.int 20 t1)) (g_SINCE : mg "SINCE" = some (.int 1000000 t2)) (g_MANY : mg "MANY" = some (.int 9 t3))
    (C_is_row : Cl P w K mg base 1 "is_row" ["thing", "fewest", "most"] (spD 3 sRow)) (C_is_number_from : Cl P w K mg base 2 "is_number_from" ["thing", "low", "high"] (spD 3 sFrom)) : FnOk P w K mg base CX0 3 f fd ["span", "kinds", "source"] (spD 3 sSrc) := by
  refine okFn F sc_source_fault rfl fun cdv A outer s H E hr => ⟨_, (dSs_cons (dS_if (dT_not (dT_val (dE_cl C_is_row (hr.mono (by omega)) (by rfl) (dA_cons (dE_var (μ := true) (pv 2)) (dA_cons (dE_c (μ := true) pe_int) (dA_cons (dE_c (μ := true) pe_int) (dA_nil (μ := true))))))))
    (dSs_one (dS_ret (ps_ret (dE_tup (dA_cons (dE_tup (dA_nil (μ := true))) (dA_cons (dE_c (μ := true) pe_str) (dA_nil (μ := true))))))))
    dSs_nil)
  (dSs_cons (dS_asg (K := K) (p := (.tp (.cons (.nm 3) (.cons (.nm 4) (.cons (.nm 5) (.cons (.nm 6) (.cons (.nm 7) .nil))))))) (ps_asg (dE_var (μ := true) (pv 2)) (pg_tup (by rfl) (pgs_cons (pg_name (i := 3) sc_source_fault.nd rfl (.inl rfl)) (pgs_cons (pg_name (i := 4) sc_source_fault.nd rfl (.inl rfl)) (pgs_cons (pg_name (i := 5) sc_source_fault.nd rfl (.inl rfl)) (pgs_cons (pg_name (i := 6) sc_source_fault.nd rfl (.inl rfl)) (pgs_cons (pg_name (i := 7) sc_source_fault.nd rfl (.inl rfl)) pgs_nil))))))))
  (dSs_cons (dS_if (dT_cmp (o_ninS (u65 hr)) (dE_var (μ := true) (pv 3)) (dE_var (μ := true) (pv 1)) (by rfl))
    (dSs_one (dS_ret (ps_ret (dE_tup (dA_cons (dE_tup (dA_cons (dE_c (μ := true) pe_int) (dA_nil (μ := true)))) (dA_cons (dE_c (μ := true) pe_str) (dA_nil (μ := true))))))))
    dSs_nil)
  (dSs_cons (dS_if (dT_not (dT_val (dE_cl C_is_number_from (hr.mono (by omega)) (by rfl) (dA_cons (dE_var (μ := true) (pv 4)) (dA_cons (dE_c (μ := true) pe_int) (dA_cons (dE_c (μ := true) (pe_glob (v := .int 20) (by rfl) g_OLD ⟨_, rfl⟩)) (dA_nil (μ := true))))))))
    (dSs_one (dS_ret (ps_ret (dE_tup (dA_cons (dE_tup (dA_cons (dE_c (μ := true) pe_int) (dA_nil (μ := true)))) (dA_cons (dE_c (μ := true) pe_str) (dA_nil (μ := true))))))))
    dSs_nil)
  (dSs_cons (dS_if (dT_not (dT_val (dE_cl C_is_number_from (hr.mono (by omega)) (by rfl) (dA_cons (dE_var (μ := true) (pv 5)) (dA_cons (dE_c (μ := true) pe_int) (dA_cons (dE_op o_sub (dE_var (μ := true) (pv 0)) (dE_c (μ := true) pe_int)) (dA_nil (μ := true))))))))
    (dSs_one (dS_ret (ps_ret (dE_tup (dA_cons (dE_tup (dA_cons (dE_c (μ := true) pe_int) (dA_nil (μ := true)))) (dA_cons (dE_c (μ := true) pe_str) (dA_nil (μ := true))))))))
    dSs_nil)
  (dSs_cons (dS_if (dT_not (dT_val (dE_cl C_is_number_from (hr.mono (by omega)) (by rfl) (dA_cons (dE_var (μ := true) (pv 6)) (dA_cons (dE_c (μ := true) pe_int) (dA_cons (dE_c (μ := true) (pe_glob (v := .int 1000000) (by rfl) g_SINCE ⟨_, rfl⟩)) (dA_nil (μ := true))))))))
    (dSs_one (dS_ret (ps_ret (dE_tup (dA_cons (dE_tup (dA_cons (dE_c (μ := true) pe_int) (dA_nil (μ := true)))) (dA_cons (dE_c (μ := true) pe_str) (dA_nil (μ := true))))))))
    dSs_nil)
  (dSs_cons (dS_if (dT_not (dT_val (dE_cl C_is_number_from (hr.mono (by omega)) (by rfl) (dA_cons (dE_var (μ := true) (pv 7)) (dA_cons (dE_c (μ := true) pe_int) (dA_cons (dE_c (μ := true) (pe_glob (v := .int 9) (by rfl) g_MANY ⟨_, rfl⟩)) (dA_nil (μ := true))))))))
    (dSs_one (dS_ret (ps_ret (dE_tup (dA_cons (dE_tup (dA_cons (dE_c (μ := true) pe_int) (dA_nil (μ := true)))) (dA_cons (dE_c (μ := true) pe_str) (dA_nil (μ := true))))))))
    dSs_nil)
  (dSs_one (dS_ret (ps_ret (dE_c (μ := true) pe_non))))))))))), fun ds d l e => ?_⟩
  match ds, e with
  | [.int n, .tuple ks, x], e =>
    obtain ⟨ok, rfl⟩ := iteS e
    have ok := Bool.and_eq_true_iff.mp ok
    refine ⟨.rt (srcF n ks x), ?_, rfl⟩
    refine (ev_guard (b := !isRow 5 5 x) rfl rfl).trans ?_
    cases h0 : isRow 5 5 x with
    | false =>
      have : srcF n ks x = flt [] "source" := by
        unfold srcF
        split
        · cases h0
        · rfl
      rw [this]
      rfl
    | true =>
      obtain ⟨a, b, c, e', f', rfl⟩ := isRow_five h0
      have oa := gq.tup ok.2 a (by simp)
      refine (ev_asg rfl rfl).trans ?_
      refine (ev_guard (b := !kindIn ks a) (by show ((ninS a (.tuple ks)).bind bB) = _; rw [ninS_tup oa ok.1]; rfl) rfl).trans ?_
      cases h1 : kindIn ks a with
      | false => simp only [srcF, h1]; rfl
      | true =>
        refine (ev_guard (b := !isFrom 0 20 b) rfl rfl).trans ?_
        cases h2 : isFrom 0 20 b with
        | false => simp only [srcF, h1, h2]; rfl
        | true =>
          refine (ev_guard (b := !isFrom 0 (n - 1) c) rfl rfl).trans ?_
          cases h3 : isFrom 0 (n - 1) c with
          | false => simp only [srcF, h1, h2, h3]; rfl
          | true =>
            refine (ev_guard (b := !isFrom 0 1000000 e') rfl rfl).trans ?_
            cases h4 : isFrom 0 1000000 e' with
            | false => simp only [srcF, h1, h2, h3, h4]; rfl
            | true =>
              refine (ev_guard (b := !isFrom 1 9 f') rfl rfl).trans ?_
              cases h5 : isFrom 1 9 f' with
              | false => simp only [srcF, h1, h2, h3, h4, h5]; rfl
              | true => simp only [srcF, h1, h2, h3, h4, h5]; rfl
end
end Dl
namespace Dl
open PySem PySem.Spec PyProof.Rows L2 Rt
def below (p : List D) : D → D
  | .tuple [.tuple i, w] => .tuple [.tuple (p ++ i), w]
  | d => d
/-- what is told of a part of it: nothing, or a short path and a word -/
def FltP (d : D) : Prop := d = .none ∨ ∃ i w, d = .tuple [.tuple i, w] ∧ i.length ≤ 10
def firstF (pre : List D) (f : D → D) : Nat → List D → D
  | _, [] => .none
  | k, x :: xs => match f x with
    | .none => firstF pre f (k + 1) xs
    | d => below (pre ++ [PyData.int k]) d
theorem firstF_none {pre : List D} {f : D → D} {k : Nat} {x : D} {xs : List D} (h : f x = .none) : firstF pre f k (x :: xs) = firstF pre f (k + 1) xs := by
  show (match f x with | .none => firstF pre f (k + 1) xs | d => below (pre ++ [PyData.int k]) d) = _
  rw [h]
theorem firstF_some {pre : List D} {f : D → D} {k : Nat} {x : D} {xs : List D} (h : f x ≠ .none) : firstF pre f k (x :: xs) = below (pre ++ [PyData.int k]) (f x) := by
  show (match f x with | .none => firstF pre f (k + 1) xs | d => below (pre ++ [PyData.int k]) d) = _
  split
  · rename_i e; exact (h e).elim
  · rfl
theorem below_ne {p : List D} {d : D} (h : d ≠ .none) : below p d ≠ .none := by
  unfold below
  split
  · intro z; cases z
  · exact h
theorem ev_first {p : Pat} {body : Rho → Option Out} {f : D → D} {pre : List D} (I : Rho → Prop) : ∀ (xs : List D) (k : Nat) (ρ : Rho), I ρ → (∀ k x ρ, x ∈ xs → I ρ → ∃ ρ1, bindP p (.tuple [.int (k : Nat), x]) ρ = some ρ1 ∧ ((f x = .none ∧ ∃ ρ2, I ρ2 ∧ body ρ1 = some (.nx ρ2)) ∨ (f x ≠ .none ∧ body ρ1 = some (.rt (below (pre ++ [PyData.int (k : Nat)]) (f x)))))) →
    (∃ ρ', I ρ' ∧ firstF pre f k xs = .none ∧ forGo p body (enGo k xs) ρ = some (.nx ρ')) ∨ (firstF pre f k xs ≠ .none ∧ forGo p body (enGo k xs) ρ = some (.rt (firstF pre f k xs)))
  | [], k, ρ, i, _ => .inl ⟨ρ, i, rfl, rfl⟩
  | x :: xs, k, ρ, i, hb => by
    obtain ⟨ρ1, e1, h⟩ := hb k x ρ (by simp) i
    have fg : forGo p body (enGo k (x :: xs)) ρ = (body ρ1).bind fun o => match o with
      | .nx ρ2 => forGo p body (enGo (k + 1) xs) ρ2
      | .ct ρ2 => forGo p body (enGo (k + 1) xs) ρ2
      | .bk ρ2 => some (.nx ρ2)
      | .rt d => some (.rt d) := by
      show (bindP p (.tuple [.int k, x]) ρ).bind _ = _
      rw [e1]
      rfl
    rw [fg]
    rcases h with ⟨ht, ρ2, i2, e2⟩ | ⟨ht, e2⟩
    · rw [e2, firstF_none ht]
      exact ev_first I xs (k + 1) ρ2 i2 fun k x ρ m => hb k x ρ (by simp [m])
    · rw [e2, firstF_some ht]
      exact .inr ⟨below_ne ht, rfl⟩
theorem ev_firstS {it : Rho → Option (List D)} {p : Pat} {body rest : Rho → Option Out} {ρ : Rho} {xs : List D} {f : D → D} {pre : List D} (I : Rho → Prop) (hit : it ρ = some (enGo 0 xs)) (i0 : I ρ)
    (hb : ∀ k x ρ, x ∈ xs → I ρ → ∃ ρ1, bindP p (.tuple [.int (k : Nat), x]) ρ = some ρ1 ∧ ((f x = .none ∧ ∃ ρ2, I ρ2 ∧ body ρ1 = some (.nx ρ2)) ∨ (f x ≠ .none ∧ body ρ1 = some (.rt (below (pre ++ [PyData.int (k : Nat)]) (f x))))))
    (hn : ∀ ρ', I ρ' → rest ρ' = some (.rt .none)) : sSeq (sFor it p body) rest ρ = some (.rt (firstF pre f 0 xs)) := by
  have e : sFor it p body ρ = forGo p body (enGo 0 xs) ρ := by
    unfold sFor
    rw [hit]
    rfl
  rcases ev_first (f := f) (pre := pre) I xs 0 ρ i0 hb with ⟨ρ', i', e1, e2⟩ | ⟨e1, e2⟩
  · exact (ev_seq (e.trans e2)).trans (by rw [e1]; exact hn ρ' i')
  · exact ev_seqR (e.trans e2)
def partF (ks : List D) : D → D
  | .tuple [a, b, c] => if kindIn ks a = false then flt [0] "kind" else match b with
    | .int l => if isFrom 0 20 (.int l) = false then flt [1] "least" else if isFrom l 20 c = false then flt [2] "greatest" else .none
    | _ => flt [1] "least"
  | _ => flt [] "part"
def partsF (ks : List D) : D → D
  | .tuple ds => if isRow 1 3 (.tuple ds) = false then flt [] "parts" else firstF [] (partF ks) 0 ds
  | _ => flt [] "parts"
def sPartF : List D → Option D
  | [.tuple ks, d] => if (okK (.tuple ks) && gq d) = true then some (partF ks d) else none
  | _ => none
def sPartsF : List D → Option D
  | [.tuple ks, d] => if (okK (.tuple ks) && gq d) = true then some (partsF ks d) else none
  | _ => none
def sBelow : List D → Option D
  | [.tuple p, .tuple [.tuple i, w]] => if p.length + i.length ≤ sizeLine then some (below p (.tuple [.tuple i, w])) else none
  | _ => none
theorem flt_P {p : List Int} {w : String} (h : p.length ≤ 10) : FltP (flt p w) := .inr ⟨_, _, rfl, by rw [List.length_map]; exact h⟩
theorem below_P {p : List D} {d : D} (h : FltP d) (n : Nat) (hd : ∀ i w, d = .tuple [.tuple i, w] → p.length + i.length ≤ 10) : FltP (below p d) := by
  rcases h with rfl | ⟨i, w, rfl, _⟩
  · exact .inl rfl
  · exact .inr ⟨_, _, rfl, by rw [List.length_append]; exact hd i w rfl⟩
theorem isRow_three {d : D} (h : isRow 3 3 d = true) : ∃ a b c, d = .tuple [a, b, c] := by
  cases d <;> try (cases h; done)
  rename_i ds
  have : ds.length = 3 := by
    simp [isRow] at h
    omega
  match ds, this with
  | [a, b, c], _ => exact ⟨a, b, c, rfl⟩
theorem isRow_tup {lo hi : Int} {d : D} (h : isRow lo hi d = true) : ∃ ds, d = .tuple ds := by
  cases d <;> try (cases h; done)
  exact ⟨_, rfl⟩
theorem isFrom_int {lo hi : Int} {d : D} (h : isFrom lo hi d = true) : ∃ i, d = .int i := by
  cases d <;> try (cases h; done)
  exact ⟨_, rfl⟩
/-- none, or a path of at most n -/
def FltN (n : Nat) (d : D) : Prop := d = .none ∨ ∃ i w, d = .tuple [.tuple i, w] ∧ i.length ≤ n
theorem fltN {n : Nat} {p : List Int} {w : String} (h : p.length ≤ n) : FltN n (flt p w) := .inr ⟨_, _, rfl, by rw [List.length_map]; exact h⟩
theorem partF_N (ks : List D) (d : D) : FltN 1 (partF ks d) := by
  unfold partF
  split
  · split
    · exact fltN (by decide)
    · split
      · split
        · exact fltN (by decide)
        · split
          · exact fltN (by decide)
          · exact .inl rfl
      · exact fltN (by decide)
  · exact fltN (by decide)
theorem firstF_N {pre : List D} {f : D → D} {n m : Nat} (hf : ∀ x, FltN n (f x)) (hp : pre.length + 1 + n ≤ m) : ∀ (xs : List D) (k : Nat), FltN m (firstF pre f k xs)
  | [], _ => .inl rfl
  | x :: xs, k => by
    by_cases h : f x = .none
    · rw [firstF_none h]; exact firstF_N hf hp xs (k + 1)
    · rw [firstF_some h]
      rcases hf x with e | ⟨i, w, e, l⟩
      · exact (h e).elim
      · rw [e]
        exact .inr ⟨_, _, rfl, by simp; omega⟩
theorem partsF_N (ks : List D) (d : D) : FltN 2 (partsF ks d) := by
  unfold partsF
  split
  · split
    · exact fltN (by decide)
    · exact firstF_N (n := 1) (partF_N ks) (by simp) _ _
  · exact fltN (by decide)
theorem noN (d : D) : noND d .none = some (.bool (match d with | .none => false | _ => true)) := by cases d <;> rfl
section
variable {P : Program} {w : World} {K : PySem.W.Frag} {mg : Str → Option Value} {base : Heap}
theorem ok_below {f : Addr} {fd : FuncData} (F : Fun K "fault_below" "fault_below" s_fault_below f fd) : FnOk P w K mg base CX0 1 f fd ["path", "fault"] (spD 2 sBelow) := by
  refine okFn F sc_fault_below rfl fun cdv A outer s H E hr => ⟨_, (dSs_cons (dS_asg (K := K) (p := (.tp (.cons (.nm 2) (.cons (.nm 3) .nil)))) (ps_asg (dE_var (μ := true) (pv 1)) (pg_tup (by rfl) (pgs_cons (pg_name (i := 2) sc_fault_below.nd rfl (.inl rfl)) (pgs_cons (pg_name (i := 3) sc_fault_below.nd rfl (.inl rfl)) pgs_nil)))))
  (dSs_one (dS_ret (ps_ret (dE_tup (dA_cons (dE_op o_add (dE_var (μ := true) (pv 0)) (dE_var (μ := true) (pv 2))) (dA_cons (dE_var (μ := true) (pv 3)) (dA_nil (μ := true))))))))), fun ds d l e => ?_⟩
  match ds, e with
  | [.tuple p, .tuple [.tuple i, w]], e =>
    obtain ⟨l2, rfl⟩ := iteS e
    refine ⟨.rt (below p (.tuple [.tuple i, w])), ?_, rfl⟩
    refine (ev_asg rfl rfl).trans (ev_ret ?_)
    show ((addD (.tuple p) (.tuple i)).bind _).bind _ = _
    rw [add_tup l2]
    rfl
theorem ok_partF {f : Addr} {fd : FuncData} {t1 : Tok} (F : Fun K "part_fault" "part_fault" s_part_fault f fd) (g_OLD : mg "OLD" = some (.int 20 t1))
    (C_is_row : Cl P w K mg base 1 "is_row" ["thing", "fewest", "most"] (spD 3 sRow)) (C_is_number_from : Cl P w K mg base 2 "is_number_from" ["thing", "low", "high"] (spD 3 sFrom)) : FnOk P w K mg base CX0 3 f fd ["kinds", "part"] (spD 2 sPartF) := by
  refine okFn F sc_part_fault rfl fun cdv A outer s H E hr => ⟨_, (dSs_cons (dS_if (dT_not (dT_val (dE_cl C_is_row (hr.mono (by omega)) (by rfl) (dA_cons (dE_var (μ := true) (pv 1)) (dA_cons (dE_c (μ := true) pe_int) (dA_cons (dE_c (μ := true) pe_int) (dA_nil (μ := true))))))))
    (dSs_one (dS_ret (ps_ret (dE_tup (dA_cons (dE_tup (dA_nil (μ := true))) (dA_cons (dE_c (μ := true) pe_str) (dA_nil (μ := true))))))))
    dSs_nil)
  (dSs_cons (dS_asg (K := K) (p := (.tp (.cons (.nm 2) (.cons (.nm 3) (.cons (.nm 4) .nil))))) (ps_asg (dE_var (μ := true) (pv 1)) (pg_tup (by rfl) (pgs_cons (pg_name (i := 2) sc_part_fault.nd rfl (.inl rfl)) (pgs_cons (pg_name (i := 3) sc_part_fault.nd rfl (.inl rfl)) (pgs_cons (pg_name (i := 4) sc_part_fault.nd rfl (.inl rfl)) pgs_nil))))))
  (dSs_cons (dS_if (dT_cmp (o_ninS (u65 hr)) (dE_var (μ := true) (pv 2)) (dE_var (μ := true) (pv 0)) (by rfl))
    (dSs_one (dS_ret (ps_ret (dE_tup (dA_cons (dE_tup (dA_cons (dE_c (μ := true) pe_int) (dA_nil (μ := true)))) (dA_cons (dE_c (μ := true) pe_str) (dA_nil (μ := true))))))))
    dSs_nil)
  (dSs_cons (dS_if (dT_not (dT_val (dE_cl C_is_number_from (hr.mono (by omega)) (by rfl) (dA_cons (dE_var (μ := true) (pv 3)) (dA_cons (dE_c (μ := true) pe_int) (dA_cons (dE_c (μ := true) (pe_glob (v := .int 20) (by rfl) g_OLD ⟨_, rfl⟩)) (dA_nil (μ := true))))))))
    (dSs_one (dS_ret (ps_ret (dE_tup (dA_cons (dE_tup (dA_cons (dE_c (μ := true) pe_int) (dA_nil (μ := true)))) (dA_cons (dE_c (μ := true) pe_str) (dA_nil (μ := true))))))))
    dSs_nil)
  (dSs_cons (dS_if (dT_not (dT_val (dE_cl C_is_number_from (hr.mono (by omega)) (by rfl) (dA_cons (dE_var (μ := true) (pv 4)) (dA_cons (dE_var (μ := true) (pv 3)) (dA_cons (dE_c (μ := true) (pe_glob (v := .int 20) (by rfl) g_OLD ⟨_, rfl⟩)) (dA_nil (μ := true))))))))
    (dSs_one (dS_ret (ps_ret (dE_tup (dA_cons (dE_tup (dA_cons (dE_c (μ := true) pe_int) (dA_nil (μ := true)))) (dA_cons (dE_c (μ := true) pe_str) (dA_nil (μ := true))))))))
    dSs_nil)
  (dSs_one (dS_ret (ps_ret (dE_c (μ := true) pe_non))))))))), fun ds d l e => ?_⟩
  match ds, e with
  | [.tuple ks, x], e =>
    obtain ⟨ok, rfl⟩ := iteS e
    have ok := Bool.and_eq_true_iff.mp ok
    refine ⟨.rt (partF ks x), ?_, rfl⟩
    refine (ev_guard (b := !isRow 3 3 x) rfl rfl).trans ?_
    cases h0 : isRow 3 3 x with
    | false =>
      have : partF ks x = flt [] "part" := by
        unfold partF
        split
        · cases h0
        · rfl
      rw [this]
      rfl
    | true =>
      obtain ⟨a, b, c, rfl⟩ := isRow_three h0
      have oa := gq.tup ok.2 a (by simp)
      refine (ev_asg rfl rfl).trans ?_
      refine (ev_guard (b := !kindIn ks a) (by show ((ninS a (.tuple ks)).bind bB) = _; rw [ninS_tup oa ok.1]; rfl) rfl).trans ?_
      cases h1 : kindIn ks a with
      | false => simp only [partF, h1]; rfl
      | true =>
        refine (ev_guard (b := !isFrom 0 20 b) rfl rfl).trans ?_
        cases h2 : isFrom 0 20 b with
        | false =>
          simp only [partF, h1]
          cases b <;> try rfl
          simp only [h2]
          rfl
        | true =>
          obtain ⟨lo, rfl⟩ := isFrom_int h2
          refine (ev_guard (b := !isFrom lo 20 c) rfl rfl).trans ?_
          cases h3 : isFrom lo 20 c <;> (simp only [partF, h1, h2, h3]; rfl)
theorem ok_partsF {f : Addr} {fd : FuncData} {t1 : Tok} (F : Fun K "parts_fault" "parts_fault" s_parts_fault f fd) (g_PARTS : mg "PARTS" = some (.int 3 t1)) (m_enumerate : mg "enumerate" = none)
    (C_is_row : Cl P w K mg base 1 "is_row" ["thing", "fewest", "most"] (spD 3 sRow)) (C_part_fault : Cl P w K mg base 3 "part_fault" ["kinds", "part"] (spD 2 sPartF)) (C_fault_below : Cl P w K mg base 1 "fault_below" ["path", "fault"] (spD 2 sBelow)) : FnOk P w K mg base CX0 4 f fd ["kinds", "parts"] (spD 2 sPartsF) := by
  refine okFn F sc_parts_fault rfl fun cdv A outer s H E hr => ⟨_, (dSs_cons (dS_if (dT_not (dT_val (dE_cl C_is_row (hr.mono (by omega)) (by rfl) (dA_cons (dE_var (μ := true) (pv 1)) (dA_cons (dE_c (μ := true) pe_int) (dA_cons (dE_c (μ := true) (pe_glob (v := .int 3) (by rfl) g_PARTS ⟨_, rfl⟩)) (dA_nil (μ := true))))))))
    (dSs_one (dS_ret (ps_ret (dE_tup (dA_cons (dE_tup (dA_nil (μ := true))) (dA_cons (dE_c (μ := true) pe_str) (dA_nil (μ := true))))))))
    dSs_nil)
  (dSs_cons (dS_for (K := K) (p := (.tp (.cons (.nm 2) (.cons (.nm 3) .nil)))) (ps_for PassesOwn.never rfl (dI_enum (by rfl) m_enumerate (dA_cons (dE_var (μ := true) (pv 1)) (dA_nil (μ := true)))) (pg_tup (by rfl) (pgs_cons (pg_name (i := 2) sc_parts_fault.nd rfl (.inl rfl)) (pgs_cons (pg_name (i := 3) sc_parts_fault.nd rfl (.inl rfl)) pgs_nil)))
    (dSs_cons (dS_asg (K := K) (p := .nm 4) (ps_set (i := 4) sc_parts_fault.nd rfl (.inl rfl) (dE_cl C_part_fault (hr.mono (by omega)) (by rfl) (dA_cons (dE_var (μ := true) (pv 0)) (dA_cons (dE_var (μ := true) (pv 3)) (dA_nil (μ := true)))))))
  (dSs_one (dS_if (dT_cmp o_isnot (dE_var (μ := true) (pv 4)) (dE_c (μ := true) pe_non) (nomark _))
    (dSs_one (dS_ret (ps_ret (dE_cl C_fault_below (hr.mono (by omega)) (by rfl) (dA_cons (dE_tup (dA_cons (dE_var (μ := true) (pv 2)) (dA_nil (μ := true)))) (dA_cons (dE_var (μ := true) (pv 4)) (dA_nil (μ := true))))))))
    dSs_nil)))))
  (dSs_one (dS_ret (ps_ret (dE_c (μ := true) pe_non)))))), fun ds d l e => ?_⟩
  match ds, e with
  | [.tuple ks, x], e =>
    obtain ⟨ok, rfl⟩ := iteS e
    have ok := Bool.and_eq_true_iff.mp ok
    refine ⟨.rt (partsF ks x), ?_, rfl⟩
    refine (ev_guard (b := !isRow 1 3 x) rfl rfl).trans ?_
    cases h0 : isRow 1 3 x with
    | false =>
      have : partsF ks x = flt [] "parts" := by
        unfold partsF
        split
        · rw [h0]; rfl
        · rfl
      rw [this]
      rfl
    | true =>
      obtain ⟨xs, rfl⟩ := isRow_tup h0
      have ep : partsF ks (.tuple xs) = firstF [] (partF ks) 0 xs := by simp only [partsF, h0]; rfl
      rw [ep]
      refine ev_firstS (f := partF ks) (pre := []) (fun ρ => ∃ a b c, ρ = [some (.dat (.tuple ks)), some (.dat (.tuple xs)), a, b, c]) rfl ⟨_, _, _, rfl⟩ (fun k x ρ m i => ?_) (fun ρ i => by obtain ⟨a, b, c, rfl⟩ := i; rfl)
      · obtain ⟨a, b, c, rfl⟩ := i
        refine ⟨_, rfl, ?_⟩
        have ox := gq.tup ok.2 x m
        have ef : sPartF [.tuple ks, x] = some (partF ks x) := by
          show (if (okK (.tuple ks) && gq x) = true then some (partF ks x) else none) = _
          rw [if_pos (by rw [ok.1, ox]; rfl)]
        by_cases hn : partF ks x = .none
        · refine .inl ⟨hn, _, ⟨_, _, _, rfl⟩, (ev_asg (d := .none) (ev_call rfl rfl (ef.trans (by rw [hn]))) rfl).trans rfl⟩
        · refine .inr ⟨hn, ?_⟩
          rcases partF_N ks x with e | ⟨i, w, e, l⟩
          · exact (hn e).elim
          · refine (ev_asg (d := .tuple [.tuple i, w]) (ev_call rfl rfl (ef.trans (by rw [e]))) rfl).trans ?_
            refine (ev_ifR (b := true) rfl).trans (ev_ret (ev_call rfl rfl ?_))
            rw [e]
            exact if_pos (show 1 + i.length ≤ sizeLine from sz (by omega))
end
end Dl
namespace Dl
open PySem PySem.Spec PyProof.Rows L2 Rt
/-! ### the first of a row that something is told of -/
def firstG (g : Nat → D → Option D) : Nat → List D → Option D
  | _, [] => none
  | k, x :: xs => match g k x with
    | some d => some d
    | none => firstG g (k + 1) xs
theorem firstG_no {g : Nat → D → Option D} {k : Nat} {x : D} {xs : List D} (h : g k x = none) : firstG g k (x :: xs) = firstG g (k + 1) xs := by
  show (match g k x with | some d => some d | none => firstG g (k + 1) xs) = _
  rw [h]
theorem firstG_yes {g : Nat → D → Option D} {k : Nat} {x : D} {xs : List D} {d : D} (h : g k x = some d) : firstG g k (x :: xs) = some d := by
  show (match g k x with | some d => some d | none => firstG g (k + 1) xs) = _
  rw [h]
def gF (pre : List D) (f : D → D) (k : Nat) (x : D) : Option D := match f x with
  | .none => none
  | d => some (below (pre ++ [PyData.int k]) d)
theorem gF_none {pre : List D} {f : D → D} {k : Nat} {x : D} (h : f x = .none) : gF pre f k x = none := by unfold gF; rw [h]
theorem gF_some {pre : List D} {f : D → D} {k : Nat} {x : D} (h : f x ≠ .none) : gF pre f k x = some (below (pre ++ [PyData.int k]) (f x)) := by
  unfold gF
  split
  · rename_i e; exact (h e).elim
  · rfl
def orN : Option D → D
  | some d => d
  | none => .none
theorem firstG_F {pre : List D} {f : D → D} : ∀ (xs : List D) (k : Nat), orN (firstG (gF pre f) k xs) = firstF pre f k xs
  | [], _ => rfl
  | x :: xs, k => by
    by_cases h : f x = .none
    · rw [firstF_none h, firstG_no (gF_none h), firstG_F xs (k + 1)]
    · rw [firstF_some h, firstG_yes (gF_some h)]
      rfl
def Gone (ds : List D) (g : Nat → D → Option D) (k : Nat) : Prop := ∀ (j : Nat) y, j < k → ds[j]? = some y → g j y = none
def outG (o : Out) : Option D → Out
  | some d => .rt d
  | none => o
theorem ev_gGo {p : Pat} {body : Rho → Option Out} {g : Nat → D → Option D} {ds : List D} {it : Nat → D → D} (I : Rho → Prop)
    (hb : ∀ (k : Nat) x ρ, ds[k]? = some x → Gone ds g k → I ρ → ∃ ρ1, bindP p (it k x) ρ = some ρ1 ∧ ((g k x = none ∧ ∃ ρ2, I ρ2 ∧ body ρ1 = some (.nx ρ2)) ∨ ∃ d, g k x = some d ∧ body ρ1 = some (.rt d))) :
    ∀ (xs items : List D) (k : Nat) (ρ : Rho), ds.drop k = xs → items.length = xs.length → (∀ (j : Nat) x, xs[j]? = some x → items[j]? = some (it (k + j) x)) → Gone ds g k → I ρ → (∃ ρ', I ρ' ∧ firstG g k xs = none ∧ forGo p body items ρ = some (.nx ρ')) ∨ ∃ d, firstG g k xs = some d ∧ forGo p body items ρ = some (.rt d)
  | [], items, k, ρ, _, hl, _, _, i => by
    have : items = [] := List.length_eq_zero_iff.mp hl
    subst this
    exact .inl ⟨ρ, i, rfl, rfl⟩
  | x :: xs, [], k, ρ, _, hl, _, _, i => nomatch hl
  | x :: xs, y :: items, k, ρ, hd, hl, hi, gone, i => by
    have ex : ds[k]? = some x := by
      have := congrArg (·[0]?) hd
      simpa using this
    have ey : y = it k x := by
      have := hi 0 x rfl
      simpa using this
    subst ey
    obtain ⟨ρ1, e1, h⟩ := hb k x ρ ex gone i
    have fg : forGo p body (it k x :: items) ρ = (body ρ1).bind fun o => match o with
      | .nx ρ2 => forGo p body items ρ2
      | .ct ρ2 => forGo p body items ρ2
      | .bk ρ2 => some (.nx ρ2)
      | .rt d => some (.rt d) := by
      show (bindP p (it k x) ρ).bind _ = _
      rw [e1]
      rfl
    rw [fg]
    rcases h with ⟨ht, ρ2, i2, e2⟩ | ⟨d, ht, e2⟩
    · rw [e2, firstG_no ht]
      refine ev_gGo I hb xs items (k + 1) ρ2 ?_ (by simpa using hl) (fun j z hz => ?_) (fun j z hj hz => ?_) i2
      · rw [← List.drop_drop, hd]; rfl
      · have := hi (j + 1) z (by simpa using hz)
        rw [show k + 1 + j = k + (j + 1) by omega]
        simpa using this
      · by_cases e : j = k
        · subst e
          rw [ex] at hz
          cases hz
          exact ht
        · exact gone j z (by omega) hz
    · rw [e2, firstG_yes ht]
      exact .inr ⟨d, rfl, rfl⟩
theorem ev_enumG {it : Rho → Option (List D)} {p : Pat} {body rest : Rho → Option Out} {ρ : Rho} {ds : List D} {g : Nat → D → Option D} (I : Rho → Prop) (o : Out) (hit : it ρ = some (enGo 0 ds)) (i0 : I ρ)
    (hb : ∀ (k : Nat) x ρ, ds[k]? = some x → Gone ds g k → I ρ → ∃ ρ1, bindP p (.tuple [.int k, x]) ρ = some ρ1 ∧ ((g k x = none ∧ ∃ ρ2, I ρ2 ∧ body ρ1 = some (.nx ρ2)) ∨ ∃ d, g k x = some d ∧ body ρ1 = some (.rt d)))
    (hn : ∀ ρ', I ρ' → firstG g 0 ds = none → rest ρ' = some o) : sSeq (sFor it p body) rest ρ = some (outG o (firstG g 0 ds)) := by
  have e : sFor it p body ρ = forGo p body (enGo 0 ds) ρ := by
    unfold sFor
    rw [hit]
    rfl
  rcases ev_gGo (it := fun k x => .tuple [.int (k : Nat), x]) I hb ds (enGo 0 ds) 0 ρ rfl (enGo.len 0 ds) (fun j x hx => enGo.get 0 ds j x hx) (fun j y hj => absurd hj (by omega)) i0 with ⟨ρ', i', e1, e2⟩ | ⟨d, e1, e2⟩
  · rw [e1]
    exact (ev_seq (e.trans e2)).trans (hn ρ' i' e1)
  · rw [e1]
    exact ev_seqR (e.trans e2)
theorem rgD_len (lo : Int) (n : Nat) : (rgD lo n).length = n := by unfold rgD; rw [List.length_map, List.length_range]
theorem rgD_get {lo : Int} {n j : Nat} (h : j < n) : (rgD lo n)[j]? = some (.int (lo + j)) := by
  unfold rgD
  rw [List.getElem?_map, List.getElem?_range h]
  rfl
theorem ev_rangeG {it : Rho → Option (List D)} {p : Pat} {body rest : Rho → Option Out} {ρ : Rho} {ds : List D} {g : Nat → D → Option D} (I : Rho → Prop) (o : Out) (hit : it ρ = some (rgD 0 ds.length)) (i0 : I ρ)
    (hb : ∀ (k : Nat) x ρ, ds[k]? = some x → Gone ds g k → I ρ → ∃ ρ1, bindP p (.int k) ρ = some ρ1 ∧ ((g k x = none ∧ ∃ ρ2, I ρ2 ∧ body ρ1 = some (.nx ρ2)) ∨ ∃ d, g k x = some d ∧ body ρ1 = some (.rt d)))
    (hn : ∀ ρ', I ρ' → firstG g 0 ds = none → rest ρ' = some o) : sSeq (sFor it p body) rest ρ = some (outG o (firstG g 0 ds)) := by
  have e : sFor it p body ρ = forGo p body (rgD 0 ds.length) ρ := by
    unfold sFor
    rw [hit]
    rfl
  rcases ev_gGo (it := fun k _ => .int (k : Nat)) I hb ds (rgD 0 ds.length) 0 ρ rfl (rgD_len _ _) (fun j x hx => by
      have := rgD_get (lo := 0) (List.getElem?_eq_some_iff.mp hx).1
      simpa using this) (fun j y hj => absurd hj (by omega)) i0 with ⟨ρ', i', e1, e2⟩ | ⟨d, e1, e2⟩
  · rw [e1]
    exact (ev_seq (e.trans e2)).trans (hn ρ' i' e1)
  · rw [e1]
    exact ev_seqR (e.trans e2)
/-! ### names and kinds -/
def LET : List Nat := (Str.ofString "abcdefghijklmnopqrstuvwxyz").cps.toList
def isName : D → Bool
  | .str z => decide (1 ≤ (z.length : Int)) && decide ((z.length : Int) ≤ 8) && z.cps.toList.all fun c => decide (c ∈ LET)
  | _ => false
def ltS : D → D → Bool
  | .str a, .str b => decide (a.cps.toList < b.cps.toList)
  | _, _ => false
def badK (ds : List D) (k : Nat) (x : D) : Bool := !isName x || (decide (0 < k) && !(match ds[k - 1]? with | some y => ltS y x | none => false))
def gK (ds : List D) (k : Nat) (x : D) : Option D := if badK ds k x = true then some (flt [1, k] "name") else none
def kindsF : D → D
  | .tuple ds => if isRow 1 4 (.tuple ds) = false then flt [1] "kinds" else orN (firstG (gK ds) 0 ds)
  | _ => flt [1] "kinds"
def sName : List D → Option D
  | [d] => some (.bool (isName d))
  | _ => none
def sKindsF : List D → Option D
  | [d] => some (kindsF d)
  | _ => none
theorem isName_str {d : D} (h : isName d = true) : ∃ z, d = .str z := by
  cases d <;> try (cases h; done)
  exact ⟨_, rfl⟩
theorem rt_orN {d : Option D} : outG (.rt .none) d = .rt (orN d) := by cases d <;> rfl
section
variable {P : Program} {w : World} {K : PySem.W.Frag} {mg : Str → Option Value} {base : Heap}
theorem ok_name {f : Addr} {fd : FuncData} {t1 t2 : Tok} (F : Fun K "is_name" "is_name" s_is_name f fd) (m_isinstance : mg "isinstance" = none) (m_str : mg "str" = none) (m_len : mg "len" = none) (m_all : mg "all" = none) (g_LETTERS : mg "LETTERS" = some (.str (Str.ofString "abcdefghijklmnopqrstuvwxyz") t1)) (g_NAME_LENGTH : mg "NAME_LENGTH" = some (.int 8 t2)) : FnOk P w K mg base CX0 1 f fd ["thing"] (spD 1 sName) := by
  refine okFn F sc_is_name rfl fun cdv A outer s H E hr => ⟨_, (dSs_cons (dS_if (PW.pt (dW_or (dT_not (dT_val (dE_isi (dE_var (μ := true) (pv 0)) (pe_bltn (v := .ty "str") (by rfl) m_str (by decide +kernel) rfl) (by rfl) m_isinstance (by decide +kernel)))) (dW_or1 (dT_not (dT_chain o_le o_le (dE_c (μ := true) pe_int) (dE_callB c_len (by rfl) m_len (by decide +kernel) (dA_cons (dE_var (μ := true) (pv 0)) (dA_nil (μ := true)))) (dE_c (μ := true) (pe_glob (v := .int 8) (by rfl) g_NAME_LENGTH ⟨_, rfl⟩)))))))
    (dSs_one (dS_ret (ps_ret (dE_c (μ := true) pe_bl))))
    dSs_nil)
  (dSs_one (dS_ret (ps_ret (dE_callB (c_all rfl) (by rfl) m_all (by decide +kernel) (dA_cons (dE_lc (K := K) (p := (.nm 1)) (pe_lc (own := [("sign", 1)]) (g := gP K (.nm 1)) rfl sc_is_name.nd (dI_str (dE_var (μ := true) (pv 0))) (blkOk_by (own := [("sign", 1)]) (N := ["thing", "sign"]) (sc := defScope s_is_name) (by decide +kernel)) (fun _ _ _ _ _ => (pg_name (i := 1) sc_is_name.nd rfl (.inl rfl))) (fun _ _ _ _ _ => dTs_nil) (fun _ _ _ _ _ => (dE_cmp (o_in (u65 hr)) (dE_var (μ := true) (pv 1)) (dE_c (μ := true) (pe_glob (v := .str (Str.ofString "abcdefghijklmnopqrstuvwxyz")) (by rfl) g_LETTERS ⟨_, rfl⟩)) (by rfl))))) (dA_nil (μ := true)))))))), fun ds d l e => ?_⟩
  match ds, e with
  | [x], e =>
    cases e
    refine ⟨.rt (.bool (isName x)), ?_, rfl⟩
    by_cases hs : ∃ z, x = .str z
    · obtain ⟨z, rfl⟩ := hs
      refine (ev_guard (b := !(decide (1 ≤ (z.length : Int)) && decide ((z.length : Int) ≤ 8))) ?_ rfl).trans ?_
      · refine (ev_oOr (b := false) (ev_not (b := true) (ev_oB ((isi_str (.str z)).trans rfl)))).trans ?_
        refine ev_not (ev_oB ?_)
        by_cases h : 1 ≤ (z.length : Int)
        · simp [eChain, eC, eCall, aCons, aNil, eVar, lenD, leD, bB, startR, h]
        · simp [eChain, eC, eCall, aCons, aNil, eVar, lenD, leD, bB, startR, h]
      · cases h1 : (decide (1 ≤ (z.length : Int)) && decide ((z.length : Int) ≤ 8)) with
        | false => simp only [isName, h1]; rfl
        | true =>
          refine ev_ret ?_
          refine (ev_all (xs := z.cps.toList) (t := fun c => decide (c ∈ LET)) rfl ?_).trans (by simp only [isName, h1, Bool.true_and])
          refine (ev_lc (t := fun x => .bool (match x with | .str s => (match s.cps.toList with | [c] => decide (c ∈ LET) | _ => false) | _ => false)) (by show 1 < 2; decide) (strL z) fun x hx => ?_).trans ?_
          · obtain ⟨c, _, rfl⟩ := List.mem_map.mp hx
            rfl
          · unfold strL
            rw [List.map_map]
            rfl
    · have hn : isName x = false := by
        cases x <;> first | rfl | exact (hs ⟨_, rfl⟩).elim
      rw [hn]
      refine (ev_guard (b := true) ?_ rfl).trans rfl
      refine (ev_oOr (b := true) (ev_not (b := false) (ev_oB ((isi_str x).trans ?_)))).trans rfl
      cases x <;> first | rfl | exact (hs ⟨_, rfl⟩).elim
theorem ok_kindsF {f : Addr} {fd : FuncData} {t1 : Tok} (F : Fun K "kinds_fault" "kinds_fault" s_kinds_fault f fd) (m_enumerate : mg "enumerate" = none) (g_KINDS : mg "KINDS" = some (.int 4 t1)) (C_is_row : Cl P w K mg base 1 "is_row" ["thing", "fewest", "most"] (spD 3 sRow)) (C_is_name : Cl P w K mg base 1 "is_name" ["thing"] (spD 1 sName)) : FnOk P w K mg base CX0 2 f fd ["kinds"] (spD 1 sKindsF) := by
  refine okFn F sc_kinds_fault rfl fun cdv A outer s H E hr => ⟨_, (dSs_cons (dS_if (dT_not (dT_val (dE_cl C_is_row (hr.mono (by omega)) (by rfl) (dA_cons (dE_var (μ := true) (pv 0)) (dA_cons (dE_c (μ := true) pe_int) (dA_cons (dE_c (μ := true) (pe_glob (v := .int 4) (by rfl) g_KINDS ⟨_, rfl⟩)) (dA_nil (μ := true))))))))
    (dSs_one (dS_ret (ps_ret (dE_tup (dA_cons (dE_tup (dA_cons (dE_c (μ := true) pe_int) (dA_nil (μ := true)))) (dA_cons (dE_c (μ := true) pe_str) (dA_nil (μ := true))))))))
    dSs_nil)
  (dSs_cons (dS_for (K := K) (p := (.tp (.cons (.nm 1) (.cons (.nm 2) .nil)))) (ps_for PassesOwn.never rfl (dI_enum (by rfl) m_enumerate (dA_cons (dE_var (μ := true) (pv 0)) (dA_nil (μ := true)))) (pg_tup (by rfl) (pgs_cons (pg_name (i := 1) sc_kinds_fault.nd rfl (.inl rfl)) (pgs_cons (pg_name (i := 2) sc_kinds_fault.nd rfl (.inl rfl)) pgs_nil)))
    (dSs_one (dS_if (PW.pt (dW_or (dT_not (dT_val (dE_cl C_is_name (hr.mono (by omega)) (by rfl) (dA_cons (dE_var (μ := true) (pv 2)) (dA_nil (μ := true)))))) (dW_or1 (PW.pt (dW_and (dT_cmp o_gt (dE_var (μ := true) (pv 1)) (dE_c (μ := true) pe_int) (nomark _)) (dW_and1 (dT_cmp o_le (dE_var (μ := true) (pv 2)) (dE_ix (dE_var (μ := true) (pv 0)) (dE_op o_sub (dE_var (μ := true) (pv 1)) (dE_c (μ := true) pe_int))) (nomark _))))))))
    (dSs_one (dS_ret (ps_ret (dE_tup (dA_cons (dE_tup (dA_cons (dE_c (μ := true) pe_int) (dA_cons (dE_var (μ := true) (pv 1)) (dA_nil (μ := true))))) (dA_cons (dE_c (μ := true) pe_str) (dA_nil (μ := true))))))))
    dSs_nil))))
  (dSs_one (dS_ret (ps_ret (dE_c (μ := true) pe_non)))))), fun ds d l e => ?_⟩
  match ds, e with
  | [x], e =>
    cases e
    refine ⟨.rt (kindsF x), ?_, rfl⟩
    refine (ev_guard (b := !isRow 1 4 x) rfl rfl).trans ?_
    cases h0 : isRow 1 4 x with
    | false =>
      have : kindsF x = flt [1] "kinds" := by
        unfold kindsF
        split
        · rw [h0]; rfl
        · rfl
      rw [this]
      rfl
    | true =>
      obtain ⟨xs, rfl⟩ := isRow_tup h0
      have ep : kindsF (.tuple xs) = orN (firstG (gK xs) 0 xs) := by simp only [kindsF, h0]; rfl
      rw [ep, ← rt_orN]
      refine ev_enumG (fun ρ => ∃ a b, ρ = [some (.dat (.tuple xs)), a, b]) (.rt .none) rfl ⟨_, _, rfl⟩ (fun k x ρ ex gone i => ?_) (fun ρ i _ => by obtain ⟨a, b, rfl⟩ := i; rfl)
      obtain ⟨a, b, rfl⟩ := i
      refine ⟨_, rfl, ?_⟩
      have tst : oOr (oNot (oB (eCall (gN 1 sName) (aCons (eVar 2) aNil)))) (oAnd (oB (e2 gtD (eVar 1) (eC (.int 0)))) (oB (e2 leD (eVar 2) (e2 ixD (eVar 0) (e2 subD (eVar 1) (eC (.int 1))))))) [some (.dat (.tuple xs)), some (.dat (.int k)), some (.dat x)] = some (badK xs k x) := by
        unfold badK
        show (if (!isName x) = true then some true else _) = _
        cases hx : isName x with
        | false => rfl
        | true =>
          show (if decide ((k : Int) > 0) = true then _ else some false) = _
          by_cases hk : 0 < k
          · have hk' : decide ((k : Int) > 0) = true := decide_eq_true (by omega)
            rw [hk']
            have hk1 : k - 1 < xs.length := by
              have := (List.getElem?_eq_some_iff.mp ex).1
              omega
            obtain ⟨y, hy⟩ : ∃ y, xs[k - 1]? = some y := ⟨_, List.getElem?_eq_getElem hk1⟩
            have gy := gone (k - 1) y (by omega) hy
            unfold gK at gy
            have by1 : badK xs (k - 1) y = false := by
              cases z : badK xs (k - 1) y with
              | false => rfl
              | true => rw [z] at gy; cases gy
            have ny : isName y = true := by
              unfold badK at by1
              cases z : isName y with
              | true => rfl
              | false => rw [z] at by1; cases by1
            obtain ⟨zx, rfl⟩ := isName_str hx
            obtain ⟨zy, rfl⟩ := isName_str ny
            have ai : L2.atI xs ((k : Int) - 1) = some (.str zy) := by
              rw [show ((k : Int) - 1) = ((k - 1 : Nat) : Int) by omega]
              exact atI_nat hy
            show (((L2.atI xs ((k : Int) - 1)).bind fun b => leD (.str zx) b).bind bB) = _
            rw [ai, hy]
            simp [leD, bB, ltS, hk]
          · have hk' : decide ((k : Int) > 0) = false := decide_eq_false (by omega)
            rw [hk']
            simp [hk]
      unfold gK
      cases hb : badK xs k x with
      | true => exact .inr ⟨_, if_pos rfl, (ev_ifR (tst.trans (by rw [hb]))).trans rfl⟩
      | false => exact .inl ⟨if_neg (by decide), _, ⟨_, _, rfl⟩, (ev_ifR (tst.trans (by rw [hb]))).trans rfl⟩
end
end Dl
namespace Dl
open PySem PySem.Spec PyProof.Rows L2 Rt
def ris (l : List Int) : Bool := (l.zip (l.drop 1)).all fun p => decide (p.1 < p.2)
def sRis : List D → Option D
  | [.tuple ds] => (intsD ds).map fun ns => .bool (ris ns)
  | _ => none
def hoursOk (n : Int) : D → Bool
  | .tuple ds => isRow 0 n (.tuple ds) && (ds.all (isFrom 0 (n - 1)) && (match intsD ds with | some ns => ris ns | none => false))
  | _ => false
def sHours : List D → Option D
  | [.int n, d] => some (.bool (hoursOk n d))
  | _ => none
def keepsOk (c : D) : Bool := [S "oldest", S "youngest"].any fun z => PyData.eqv z c
def wayF (n : Int) (ks : List D) : D → D
  | .tuple [a, b, c, e, f] => if kindIn ks a = false then flt [0] "kind" else match partsF ks b with
    | .none => if keepsOk c = false then flt [2] "keeps" else if hoursOk n e = false then flt [3] "hours" else if isFrom 1 6 f = false then flt [4] "wait" else .none
    | d => below [.int 1] d
  | _ => flt [] "way"
def srcsF (n : Int) (ks : List D) : D → D
  | .tuple ds => if isRow 0 6 (.tuple ds) = false then flt [2] "sources" else firstF [.int 2] (srcF n ks) 0 ds
  | _ => flt [2] "sources"
def waysF (n : Int) (ks : List D) : D → D
  | .tuple ds => if isRow 0 8 (.tuple ds) = false then flt [3] "ways" else firstF [.int 3] (wayF n ks) 0 ds
  | _ => flt [3] "ways"
def orF (a b : D) : D := match a with
  | .none => b
  | d => d
def worldF : D → D
  | .tuple [.int n, .tuple ks, s, w] => if isFrom 1 6 (.int n) = false then flt [0] "round" else orF (kindsF (.tuple ks)) (orF (srcsF n ks s) (waysF n ks w))
  | .tuple [n, k, s, w] => if isFrom 1 6 n = false then flt [0] "round" else kindsF k
  | _ => flt [] "world"
def sWay : List D → Option D
  | [.int n, .tuple ks, d] => if (okK (.tuple ks) && gq d) = true then some (wayF n ks d) else none
  | _ => none
def sSrcs : List D → Option D
  | [.int n, .tuple ks, d] => if (okK (.tuple ks) && gq d) = true then some (srcsF n ks d) else none
  | _ => none
def sWays : List D → Option D
  | [.int n, .tuple ks, d] => if (okK (.tuple ks) && gq d) = true then some (waysF n ks d) else none
  | _ => none
def sWorldF : List D → Option D
  | [d] => if gq d = true then some (worldF d) else none
  | _ => none
theorem cut1 {α : Type} (xs : List α) : cutD xs (some 1) none = xs.drop 1 := by
  unfold cutD
  rw [HT.sIx_none, show (some (1 : Int)) = some ((1 : Nat) : Int) from rfl, HT.sIx_nat]
  cases xs with
  | nil => rfl
  | cons x r =>
    rw [show min 1 (x :: r).length = 1 by simp]
    exact List.take_of_length_le (by simp)
theorem ev_lcP {i j : Nat} {f : EF} {ρ : Rho} {t : D → D → D} (hi : i < ρ.length) (hj : j < ρ.length) : ∀ (xs : List (D × D)), (∀ x ∈ xs, f ((ρ.set i (some (.dat x.1))).set j (some (.dat x.2))) = some (t x.1 x.2)) → lcGo (.tp (.cons (.nm i) (.cons (.nm j) .nil))) oYes f ρ (xs.map fun x => .tuple [x.1, x.2]) = some (xs.map fun x => t x.1 x.2)
  | [], _ => rfl
  | x :: xs, h => by
    have e1 : bindP (.tp (.cons (.nm i) (.cons (.nm j) .nil))) (.tuple [x.1, x.2]) ρ = some ((ρ.set i (some (.dat x.1))).set j (some (.dat x.2))) := by
      show (bindP (.nm i) x.1 ρ).bind _ = _
      unfold bindP
      rw [if_pos hi]
      show (bindP (.nm j) x.2 _).bind _ = _
      unfold bindP
      rw [if_pos (by rw [List.length_set]; exact hj)]
      rfl
    show (bindP _ (.tuple [x.1, x.2]) ρ).bind _ = _
    rw [e1]
    show (f _).bind _ = _
    rw [h x (by simp)]
    show (lcGo _ _ _ _ _).map _ = _
    rw [ev_lcP hi hj xs fun y hy => h y (by simp [hy])]
    rfl
theorem zp_zip : ∀ (as bs : List D), zpGo as bs = (as.zip bs).map fun x => .tuple [x.1, x.2]
  | [], bs => by cases bs <;> rfl
  | a :: as, [] => rfl
  | a :: as, b :: bs => by
    show PyData.tuple [a, b] :: zpGo as bs = _
    rw [zp_zip as bs]
    rfl
theorem ints_eq : ∀ {ds : List D} {ns : List Int}, intsD ds = some ns → ds = ns.map .int
  | [], _, e => by cases e; rfl
  | .int i :: ds, _, e => by
    obtain ⟨r, er, rfl⟩ := some_map e
    rw [ints_eq er]
    rfl
  | .none :: _, _, e => nomatch e
  | .bool _ :: _, _, e => nomatch e
  | .str _ :: _, _, e => nomatch e
  | .list _ :: _, _, e => nomatch e
  | .tuple _ :: _, _, e => nomatch e
  | .dict _ :: _, _, e => nomatch e
theorem ints_of : ∀ {ds : List D} {lo hi : Int}, ds.all (isFrom lo hi) = true → ∃ ns, intsD ds = some ns
  | [], _, _, _ => ⟨[], rfl⟩
  | x :: ds, lo, hi, h => by
    rw [List.all_cons, Bool.and_eq_true_iff] at h
    obtain ⟨i, rfl⟩ := isFrom_int h.1
    obtain ⟨ns, e⟩ := ints_of h.2
    exact ⟨i :: ns, by show (intsD ds).map _ = _; rw [e]; rfl⟩
theorem srcF_N (n : Int) (ks : List D) (d : D) : FltN 1 (srcF n ks d) := by
  unfold srcF
  split
  · repeat' split
    all_goals first | exact fltN (by decide) | exact .inl rfl
  · exact fltN (by decide)
theorem wayF_N (n : Int) (ks : List D) (d : D) : FltN 3 (wayF n ks d) := by
  unfold wayF
  split
  · split
    · exact fltN (by decide)
    · rename_i b _ _ _ _
      rcases partsF_N ks b with e | ⟨i, w, e, l⟩
      · rw [e]
        repeat' split
        all_goals first | exact fltN (by decide) | exact .inl rfl | contradiction
      · rw [e]
        exact .inr ⟨_, _, rfl, by simp; omega⟩
  · exact fltN (by decide)
section
variable {P : Program} {w : World} {K : PySem.W.Frag} {mg : Str → Option Value} {base : Heap}
theorem ok_ris {f : Addr} {fd : FuncData} (F : Fun K "is_rising" "is_rising" s_is_rising f fd) (m_all : mg "all" = none) (m_zip : mg "zip" = none) : FnOk P w K mg base CX0 1 f fd ["row"] (spD 1 sRis) := by
  refine okFn F sc_is_rising rfl fun cdv A outer s H E hr => ⟨_, (dSs_one (dS_ret (ps_ret (dE_callB (c_all rfl) (by rfl) m_all (by decide +kernel) (dA_cons (dE_lc (K := K) (p := (.tp (.cons (.nm 1) (.cons (.nm 2) .nil)))) (pe_lc (own := [("ahead", 1), ("behind", 2)]) (g := gP K (.tp (.cons (.nm 1) (.cons (.nm 2) .nil)))) rfl sc_is_rising.nd (dI_zip (by rfl) m_zip (dA_cons (dE_var (μ := true) (pv 0)) (dA_cons (dE_sl (dE_var (μ := true) (pv 0)) (dO_some (dE_c (μ := true) pe_int)) dO_none) (dA_nil (μ := true))))) (blkOk_by (own := [("ahead", 1), ("behind", 2)]) (N := ["row", "ahead", "behind"]) (sc := defScope s_is_rising) (by decide +kernel)) (fun _ _ _ _ _ => (pg_tup (by rfl) (pgs_cons (pg_name (i := 1) sc_is_rising.nd rfl (.inl rfl)) (pgs_cons (pg_name (i := 2) sc_is_rising.nd rfl (.inl rfl)) pgs_nil)))) (fun _ _ _ _ _ => dTs_nil) (fun _ _ _ _ _ => (dE_cmp o_lt (dE_var (μ := true) (pv 1)) (dE_var (μ := true) (pv 2)) (nomark _))))) (dA_nil (μ := true))))))), fun ds d l e => ?_⟩
  match ds, e with
  | [.tuple xs], e =>
    obtain ⟨ns, en, rfl⟩ := some_map e
    have ex := ints_eq en
    refine ⟨.rt (.bool (ris ns)), ev_ret (ev_all (xs := ns.zip (ns.drop 1)) (t := fun p => decide (p.1 < p.2)) (items := zpGo xs (xs.drop 1)) ?_ ?_), rfl⟩
    · show some (zpGo xs (cutD xs (some 1) none)) = _
      rw [cut1]
    · rw [zp_zip, ex, ← List.map_drop, List.zip_map, List.map_map]
      have := ev_lcP (i := 1) (j := 2) (f := e2 ltD (eVar 1) (eVar 2)) (ρ := [some (.dat (.tuple (ns.map .int))), none, none]) (t := fun a b => .bool (match a, b with | .int i, .int j => decide (i < j) | _, _ => false)) (by show 1 < 3; decide) (by show 2 < 3; decide) ((ns.zip (ns.drop 1)).map fun p => (PyData.int p.1, PyData.int p.2)) (fun x hx => by
        obtain ⟨p, _, rfl⟩ := List.mem_map.mp hx
        rfl)
      rw [List.map_map, List.map_map] at this
      exact this
theorem ok_hours {f : Addr} {fd : FuncData} (F : Fun K "is_hours" "is_hours" s_is_hours f fd) (m_all : mg "all" = none) (C_is_row : Cl P w K mg base 1 "is_row" ["thing", "fewest", "most"] (spD 3 sRow)) (C_is_number_from : Cl P w K mg base 2 "is_number_from" ["thing", "low", "high"] (spD 3 sFrom)) (C_is_rising : Cl P w K mg base 1 "is_rising" ["row"] (spD 1 sRis)) : FnOk P w K mg base CX0 3 f fd ["span", "hours"] (spD 2 sHours) := by
  refine okFn F sc_is_hours rfl fun cdv A outer s H E hr => ⟨_, (dSs_cons (dS_if (dT_not (dT_val (dE_cl C_is_row (hr.mono (by omega)) (by rfl) (dA_cons (dE_var (μ := true) (pv 1)) (dA_cons (dE_c (μ := true) pe_int) (dA_cons (dE_var (μ := true) (pv 0)) (dA_nil (μ := true))))))))
    (dSs_one (dS_ret (ps_ret (dE_c (μ := true) pe_bl))))
    dSs_nil)
  (dSs_one (dS_ret (ps_ret (dE_and (dE_callB (c_all rfl) (by rfl) m_all (by decide +kernel) (dA_cons (dE_lc (K := K) (p := (.nm 2)) (pe_lc (own := [("hour", 2)]) (g := gP K (.nm 2)) rfl sc_is_hours.nd (dI_seq (dE_var (μ := true) (pv 1))) (blkOk_by (own := [("hour", 2)]) (N := ["span", "hours", "hour"]) (sc := defScope s_is_hours) (by decide +kernel)) (fun _ _ _ _ _ => (pg_name (i := 2) sc_is_hours.nd rfl (.inl rfl))) (fun _ _ _ _ _ => dTs_nil) (fun _ _ _ _ _ => (dE_cl C_is_number_from (hr.mono (by omega)) (by rfl) (dA_cons (dE_var (μ := true) (pv 2)) (dA_cons (dE_c (μ := true) pe_int) (dA_cons (dE_op o_sub (dE_var (μ := true) (pv 0)) (dE_c (μ := true) pe_int)) (dA_nil (μ := true))))))))) (dA_nil (μ := true)))) (dE_one (dE_cl C_is_rising (hr.mono (by omega)) (by rfl) (dA_cons (dE_var (μ := true) (pv 1)) (dA_nil (μ := true)))))))))), fun ds d l e => ?_⟩
  match ds, e with
  | [.int n, x], e =>
    cases e
    refine ⟨.rt (.bool (hoursOk n x)), ?_, rfl⟩
    refine (ev_guard (b := !isRow 0 n x) rfl rfl).trans ?_
    cases h0 : isRow 0 n x with
    | false =>
      have : hoursOk n x = false := by
        unfold hoursOk
        split
        · rw [h0]; rfl
        · rfl
      rw [this]
      rfl
    | true =>
      obtain ⟨xs, rfl⟩ := isRow_tup h0
      refine ev_ret (ev_and (b := xs.all (isFrom 0 (n - 1))) (ev_all (xs := xs) (t := isFrom 0 (n - 1)) rfl (ev_lc (t := fun x => .bool (isFrom 0 (n - 1) x)) (by show 2 < 3; decide) xs fun x _ => rfl)) (fun ha => ?_) (fun ha => ?_))
      · obtain ⟨ns, en⟩ := ints_of ha
        refine ev_call rfl rfl ?_
        show (intsD xs).map _ = _
        simp only [hoursOk, h0, ha, en]
        rfl
      · simp only [hoursOk, h0, ha]
        rfl
theorem ok_wayF {f : Addr} {fd : FuncData} {t1 : Tok} (F : Fun K "way_fault" "way_fault" s_way_fault f fd) (g_WAIT : mg "WAIT" = some (.int 6 t1))
    (C_is_row : Cl P w K mg base 1 "is_row" ["thing", "fewest", "most"] (spD 3 sRow)) (C_is_number_from : Cl P w K mg base 2 "is_number_from" ["thing", "low", "high"] (spD 3 sFrom)) (C_parts_fault : Cl P w K mg base 4 "parts_fault" ["kinds", "parts"] (spD 2 sPartsF)) (C_fault_below : Cl P w K mg base 1 "fault_below" ["path", "fault"] (spD 2 sBelow)) (C_is_hours : Cl P w K mg base 3 "is_hours" ["span", "hours"] (spD 2 sHours)) : FnOk P w K mg base CX0 5 f fd ["span", "kinds", "way"] (spD 3 sWay) := by
  refine okFn F sc_way_fault rfl fun cdv A outer s H E hr => ⟨_, (dSs_cons (dS_if (dT_not (dT_val (dE_cl C_is_row (hr.mono (by omega)) (by rfl) (dA_cons (dE_var (μ := true) (pv 2)) (dA_cons (dE_c (μ := true) pe_int) (dA_cons (dE_c (μ := true) pe_int) (dA_nil (μ := true))))))))
    (dSs_one (dS_ret (ps_ret (dE_tup (dA_cons (dE_tup (dA_nil (μ := true))) (dA_cons (dE_c (μ := true) pe_str) (dA_nil (μ := true))))))))
    dSs_nil)
  (dSs_cons (dS_asg (K := K) (p := (.tp (.cons (.nm 3) (.cons (.nm 4) (.cons (.nm 5) (.cons (.nm 6) (.cons (.nm 7) .nil))))))) (ps_asg (dE_var (μ := true) (pv 2)) (pg_tup (by rfl) (pgs_cons (pg_name (i := 3) sc_way_fault.nd rfl (.inl rfl)) (pgs_cons (pg_name (i := 4) sc_way_fault.nd rfl (.inl rfl)) (pgs_cons (pg_name (i := 5) sc_way_fault.nd rfl (.inl rfl)) (pgs_cons (pg_name (i := 6) sc_way_fault.nd rfl (.inl rfl)) (pgs_cons (pg_name (i := 7) sc_way_fault.nd rfl (.inl rfl)) pgs_nil))))))))
  (dSs_cons (dS_if (dT_cmp (o_ninS (u65 hr)) (dE_var (μ := true) (pv 3)) (dE_var (μ := true) (pv 1)) (by rfl))
    (dSs_one (dS_ret (ps_ret (dE_tup (dA_cons (dE_tup (dA_cons (dE_c (μ := true) pe_int) (dA_nil (μ := true)))) (dA_cons (dE_c (μ := true) pe_str) (dA_nil (μ := true))))))))
    dSs_nil)
  (dSs_cons (dS_asg (K := K) (p := .nm 8) (ps_set (i := 8) sc_way_fault.nd rfl (.inl rfl) (dE_cl C_parts_fault (hr.mono (by omega)) (by rfl) (dA_cons (dE_var (μ := true) (pv 1)) (dA_cons (dE_var (μ := true) (pv 4)) (dA_nil (μ := true)))))))
  (dSs_cons (dS_if (dT_cmp o_isnot (dE_var (μ := true) (pv 8)) (dE_c (μ := true) pe_non) (nomark _))
    (dSs_one (dS_ret (ps_ret (dE_cl C_fault_below (hr.mono (by omega)) (by rfl) (dA_cons (dE_tup (dA_cons (dE_c (μ := true) pe_int) (dA_nil (μ := true)))) (dA_cons (dE_var (μ := true) (pv 8)) (dA_nil (μ := true))))))))
    dSs_nil)
  (dSs_cons (dS_if (dT_cmp (o_ninS (u65 hr)) (dE_var (μ := true) (pv 5)) (dE_tup (dA_cons (dE_c (μ := true) pe_str) (dA_cons (dE_c (μ := true) pe_str) (dA_nil (μ := true))))) (by rfl))
    (dSs_one (dS_ret (ps_ret (dE_tup (dA_cons (dE_tup (dA_cons (dE_c (μ := true) pe_int) (dA_nil (μ := true)))) (dA_cons (dE_c (μ := true) pe_str) (dA_nil (μ := true))))))))
    dSs_nil)
  (dSs_cons (dS_if (dT_not (dT_val (dE_cl C_is_hours (hr.mono (by omega)) (by rfl) (dA_cons (dE_var (μ := true) (pv 0)) (dA_cons (dE_var (μ := true) (pv 6)) (dA_nil (μ := true)))))))
    (dSs_one (dS_ret (ps_ret (dE_tup (dA_cons (dE_tup (dA_cons (dE_c (μ := true) pe_int) (dA_nil (μ := true)))) (dA_cons (dE_c (μ := true) pe_str) (dA_nil (μ := true))))))))
    dSs_nil)
  (dSs_cons (dS_if (dT_not (dT_val (dE_cl C_is_number_from (hr.mono (by omega)) (by rfl) (dA_cons (dE_var (μ := true) (pv 7)) (dA_cons (dE_c (μ := true) pe_int) (dA_cons (dE_c (μ := true) (pe_glob (v := .int 6) (by rfl) g_WAIT ⟨_, rfl⟩)) (dA_nil (μ := true))))))))
    (dSs_one (dS_ret (ps_ret (dE_tup (dA_cons (dE_tup (dA_cons (dE_c (μ := true) pe_int) (dA_nil (μ := true)))) (dA_cons (dE_c (μ := true) pe_str) (dA_nil (μ := true))))))))
    dSs_nil)
  (dSs_one (dS_ret (ps_ret (dE_c (μ := true) pe_non)))))))))))), fun ds d l e => ?_⟩
  match ds, e with
  | [.int n, .tuple ks, x], e =>
    obtain ⟨ok, rfl⟩ := iteS e
    have ok := Bool.and_eq_true_iff.mp ok
    refine ⟨.rt (wayF n ks x), ?_, rfl⟩
    refine (ev_guard (b := !isRow 5 5 x) rfl rfl).trans ?_
    cases h0 : isRow 5 5 x with
    | false =>
      have : wayF n ks x = flt [] "way" := by
        unfold wayF
        split
        · cases h0
        · rfl
      rw [this]
      rfl
    | true =>
      obtain ⟨a, b, c, e', f', rfl⟩ := isRow_five h0
      have oa := gq.tup ok.2 a (by simp)
      have ob := gq.tup ok.2 b (by simp)
      have oc := gq.tup ok.2 c (by simp)
      refine (ev_asg rfl rfl).trans ?_
      refine (ev_guard (b := !kindIn ks a) (by show ((ninS a (.tuple ks)).bind bB) = _; rw [ninS_tup oa ok.1]; rfl) rfl).trans ?_
      cases h1 : kindIn ks a with
      | false => simp only [wayF, h1]; rfl
      | true =>
        have ef : sPartsF [.tuple ks, b] = some (partsF ks b) := if_pos (by rw [ok.1, ob]; rfl)
        refine (ev_asg (d := partsF ks b) (ev_call rfl rfl ef) rfl).trans ?_
        rcases partsF_N ks b with ep | ⟨i, w', ep, lp⟩
        · rw [ep]
          refine (ev_if (b := false) rfl).trans ?_
          refine (show _ = _ from ev_nil).trans ?_
          refine (ev_guard (b := !keepsOk c) (by show ((ninS c (.tuple [S "oldest", S "youngest"])).bind bB) = _; rw [ninS_tup oc (by decide +kernel)]; rfl) rfl).trans ?_
          cases h2 : keepsOk c with
          | false => simp only [wayF, h1, ep, h2]; rfl
          | true =>
            refine (ev_guard (b := !hoursOk n e') rfl rfl).trans ?_
            cases h3 : hoursOk n e' with
            | false => simp only [wayF, h1, ep, h2, h3]; rfl
            | true =>
              refine (ev_guard (b := !isFrom 1 6 f') rfl rfl).trans ?_
              cases h4 : isFrom 1 6 f' <;> (simp only [wayF, h1, ep, h2, h3, h4]; rfl)
        · rw [ep]
          refine (ev_if (b := true) rfl).trans ?_
          have eb : sBelow [.tuple [.int 1], .tuple [.tuple i, w']] = some (below [.int 1] (.tuple [.tuple i, w'])) := if_pos (show 1 + i.length ≤ sizeLine from sz (by omega))
          refine (ev_retS (ev_call rfl rfl eb)).trans ?_
          simp only [wayF, h1, ep]
          rfl
theorem ok_srcs {f : Addr} {fd : FuncData} {t1 : Tok} (F : Fun K "sources_fault" "sources_fault" s_sources_fault f fd) (g_SOURCES : mg "SOURCES" = some (.int 6 t1)) (m_enumerate : mg "enumerate" = none)
    (C_is_row : Cl P w K mg base 1 "is_row" ["thing", "fewest", "most"] (spD 3 sRow)) (C_source_fault : Cl P w K mg base 3 "source_fault" ["span", "kinds", "source"] (spD 3 sSrc)) (C_fault_below : Cl P w K mg base 1 "fault_below" ["path", "fault"] (spD 2 sBelow)) : FnOk P w K mg base CX0 4 f fd ["span", "kinds", "sources"] (spD 3 sSrcs) := by
  refine okFn F sc_sources_fault rfl fun cdv A outer s H E hr => ⟨_, (dSs_cons (dS_if (dT_not (dT_val (dE_cl C_is_row (hr.mono (by omega)) (by rfl) (dA_cons (dE_var (μ := true) (pv 2)) (dA_cons (dE_c (μ := true) pe_int) (dA_cons (dE_c (μ := true) (pe_glob (v := .int 6) (by rfl) g_SOURCES ⟨_, rfl⟩)) (dA_nil (μ := true))))))))
    (dSs_one (dS_ret (ps_ret (dE_tup (dA_cons (dE_tup (dA_cons (dE_c (μ := true) pe_int) (dA_nil (μ := true)))) (dA_cons (dE_c (μ := true) pe_str) (dA_nil (μ := true))))))))
    dSs_nil)
  (dSs_cons (dS_for (K := K) (p := (.tp (.cons (.nm 3) (.cons (.nm 4) .nil)))) (ps_for PassesOwn.never rfl (dI_enum (by rfl) m_enumerate (dA_cons (dE_var (μ := true) (pv 2)) (dA_nil (μ := true)))) (pg_tup (by rfl) (pgs_cons (pg_name (i := 3) sc_sources_fault.nd rfl (.inl rfl)) (pgs_cons (pg_name (i := 4) sc_sources_fault.nd rfl (.inl rfl)) pgs_nil)))
    (dSs_cons (dS_asg (K := K) (p := .nm 5) (ps_set (i := 5) sc_sources_fault.nd rfl (.inl rfl) (dE_cl C_source_fault (hr.mono (by omega)) (by rfl) (dA_cons (dE_var (μ := true) (pv 0)) (dA_cons (dE_var (μ := true) (pv 1)) (dA_cons (dE_var (μ := true) (pv 4)) (dA_nil (μ := true))))))))
  (dSs_one (dS_if (dT_cmp o_isnot (dE_var (μ := true) (pv 5)) (dE_c (μ := true) pe_non) (nomark _))
    (dSs_one (dS_ret (ps_ret (dE_cl C_fault_below (hr.mono (by omega)) (by rfl) (dA_cons (dE_tup (dA_cons (dE_c (μ := true) pe_int) (dA_cons (dE_var (μ := true) (pv 3)) (dA_nil (μ := true))))) (dA_cons (dE_var (μ := true) (pv 5)) (dA_nil (μ := true))))))))
    dSs_nil)))))
  (dSs_one (dS_ret (ps_ret (dE_c (μ := true) pe_non)))))), fun ds d l e => ?_⟩
  match ds, e with
  | [.int n, .tuple ks, x], e =>
    obtain ⟨ok, rfl⟩ := iteS e
    have ok := Bool.and_eq_true_iff.mp ok
    refine ⟨.rt (srcsF n ks x), ?_, rfl⟩
    refine (ev_guard (b := !isRow 0 6 x) rfl rfl).trans ?_
    cases h0 : isRow 0 6 x with
    | false =>
      have : srcsF n ks x = flt [2] "sources" := by
        unfold srcsF
        split
        · rw [h0]; rfl
        · rfl
      rw [this]
      rfl
    | true =>
      obtain ⟨xs, rfl⟩ := isRow_tup h0
      have ep : srcsF n ks (.tuple xs) = firstF [.int 2] (srcF n ks) 0 xs := by simp only [srcsF, h0]; rfl
      rw [ep]
      refine ev_firstS (f := srcF n ks) (pre := [.int 2]) (fun ρ => ∃ a b c, ρ = [some (.dat (.int n)), some (.dat (.tuple ks)), some (.dat (.tuple xs)), a, b, c]) rfl ⟨_, _, _, rfl⟩ (fun k x ρ m i => ?_) (fun ρ i => by obtain ⟨a, b, c, rfl⟩ := i; rfl)
      obtain ⟨a, b, c, rfl⟩ := i
      refine ⟨_, rfl, ?_⟩
      have ox := gq.tup ok.2 x m
      have ef : sSrc [.int n, .tuple ks, x] = some (srcF n ks x) := if_pos (by rw [ok.1, ox]; rfl)
      by_cases hn : srcF n ks x = .none
      · exact .inl ⟨hn, _, ⟨_, _, _, rfl⟩, (ev_asg (d := .none) (ev_call rfl rfl (ef.trans (by rw [hn]))) rfl).trans rfl⟩
      · refine .inr ⟨hn, ?_⟩
        rcases srcF_N n ks x with e | ⟨i, w, e, l⟩
        · exact (hn e).elim
        · refine (ev_asg (d := .tuple [.tuple i, w]) (ev_call rfl rfl (ef.trans (by rw [e]))) rfl).trans ?_
          refine (ev_ifR (b := true) rfl).trans (ev_ret (ev_call rfl rfl ?_))
          rw [e]
          exact if_pos (show 2 + i.length ≤ sizeLine from sz (by omega))
theorem ok_ways {f : Addr} {fd : FuncData} {t1 : Tok} (F : Fun K "ways_fault" "ways_fault" s_ways_fault f fd) (g_WAYS : mg "WAYS" = some (.int 8 t1)) (m_enumerate : mg "enumerate" = none)
    (C_is_row : Cl P w K mg base 1 "is_row" ["thing", "fewest", "most"] (spD 3 sRow)) (C_way_fault : Cl P w K mg base 5 "way_fault" ["span", "kinds", "way"] (spD 3 sWay)) (C_fault_below : Cl P w K mg base 1 "fault_below" ["path", "fault"] (spD 2 sBelow)) : FnOk P w K mg base CX0 6 f fd ["span", "kinds", "ways"] (spD 3 sWays) := by
  refine okFn F sc_ways_fault rfl fun cdv A outer s H E hr => ⟨_, (dSs_cons (dS_if (dT_not (dT_val (dE_cl C_is_row (hr.mono (by omega)) (by rfl) (dA_cons (dE_var (μ := true) (pv 2)) (dA_cons (dE_c (μ := true) pe_int) (dA_cons (dE_c (μ := true) (pe_glob (v := .int 8) (by rfl) g_WAYS ⟨_, rfl⟩)) (dA_nil (μ := true))))))))
    (dSs_one (dS_ret (ps_ret (dE_tup (dA_cons (dE_tup (dA_cons (dE_c (μ := true) pe_int) (dA_nil (μ := true)))) (dA_cons (dE_c (μ := true) pe_str) (dA_nil (μ := true))))))))
    dSs_nil)
  (dSs_cons (dS_for (K := K) (p := (.tp (.cons (.nm 3) (.cons (.nm 4) .nil)))) (ps_for PassesOwn.never rfl (dI_enum (by rfl) m_enumerate (dA_cons (dE_var (μ := true) (pv 2)) (dA_nil (μ := true)))) (pg_tup (by rfl) (pgs_cons (pg_name (i := 3) sc_ways_fault.nd rfl (.inl rfl)) (pgs_cons (pg_name (i := 4) sc_ways_fault.nd rfl (.inl rfl)) pgs_nil)))
    (dSs_cons (dS_asg (K := K) (p := .nm 5) (ps_set (i := 5) sc_ways_fault.nd rfl (.inl rfl) (dE_cl C_way_fault (hr.mono (by omega)) (by rfl) (dA_cons (dE_var (μ := true) (pv 0)) (dA_cons (dE_var (μ := true) (pv 1)) (dA_cons (dE_var (μ := true) (pv 4)) (dA_nil (μ := true))))))))
  (dSs_one (dS_if (dT_cmp o_isnot (dE_var (μ := true) (pv 5)) (dE_c (μ := true) pe_non) (nomark _))
    (dSs_one (dS_ret (ps_ret (dE_cl C_fault_below (hr.mono (by omega)) (by rfl) (dA_cons (dE_tup (dA_cons (dE_c (μ := true) pe_int) (dA_cons (dE_var (μ := true) (pv 3)) (dA_nil (μ := true))))) (dA_cons (dE_var (μ := true) (pv 5)) (dA_nil (μ := true))))))))
    dSs_nil)))))
  (dSs_one (dS_ret (ps_ret (dE_c (μ := true) pe_non)))))), fun ds d l e => ?_⟩
  match ds, e with
  | [.int n, .tuple ks, x], e =>
    obtain ⟨ok, rfl⟩ := iteS e
    have ok := Bool.and_eq_true_iff.mp ok
    refine ⟨.rt (waysF n ks x), ?_, rfl⟩
    refine (ev_guard (b := !isRow 0 8 x) rfl rfl).trans ?_
    cases h0 : isRow 0 8 x with
    | false =>
      have : waysF n ks x = flt [3] "ways" := by
        unfold waysF
        split
        · rw [h0]; rfl
        · rfl
      rw [this]
      rfl
    | true =>
      obtain ⟨xs, rfl⟩ := isRow_tup h0
      have ep : waysF n ks (.tuple xs) = firstF [.int 3] (wayF n ks) 0 xs := by simp only [waysF, h0]; rfl
      rw [ep]
      refine ev_firstS (f := wayF n ks) (pre := [.int 3]) (fun ρ => ∃ a b c, ρ = [some (.dat (.int n)), some (.dat (.tuple ks)), some (.dat (.tuple xs)), a, b, c]) rfl ⟨_, _, _, rfl⟩ (fun k x ρ m i => ?_) (fun ρ i => by obtain ⟨a, b, c, rfl⟩ := i; rfl)
      obtain ⟨a, b, c, rfl⟩ := i
      refine ⟨_, rfl, ?_⟩
      have ox := gq.tup ok.2 x m
      have ef : sWay [.int n, .tuple ks, x] = some (wayF n ks x) := if_pos (by rw [ok.1, ox]; rfl)
      by_cases hn : wayF n ks x = .none
      · exact .inl ⟨hn, _, ⟨_, _, _, rfl⟩, (ev_asg (d := .none) (ev_call rfl rfl (ef.trans (by rw [hn]))) rfl).trans rfl⟩
      · refine .inr ⟨hn, ?_⟩
        rcases wayF_N n ks x with e | ⟨i, w, e, l⟩
        · exact (hn e).elim
        · refine (ev_asg (d := .tuple [.tuple i, w]) (ev_call rfl rfl (ef.trans (by rw [e]))) rfl).trans ?_
          refine (ev_ifR (b := true) rfl).trans (ev_ret (ev_call rfl rfl ?_))
          rw [e]
          exact if_pos (show 2 + i.length ≤ sizeLine from sz (by omega))
theorem orT_F {f g : EF} {ρ : Rho} {a b : D} {n : Nat} (hf : f ρ = some a) (ha : FltN n a) (hg : a = .none → g ρ = some b) : eOrT f g ρ = some (orF a b) := by
  unfold eOrT
  rw [hf]
  rcases ha with rfl | ⟨i, w, rfl, _⟩
  · exact hg rfl
  · rfl
theorem kindsF_N (d : D) : FltN 2 (kindsF d) := by
  unfold kindsF
  split
  · split
    · exact fltN (by decide)
    · rename_i ds _
      have : ∀ (xs : List D) (k : Nat), FltN 2 (orN (firstG (gK ds) k xs)) := by
        intro xs
        induction xs with
        | nil => intro k; exact .inl rfl
        | cons x xs ih =>
          intro k
          cases e : gK ds k x with
          | none => rw [firstG_no e]; exact ih _
          | some d =>
            rw [firstG_yes e]
            unfold gK at e
            split at e
            · cases e; exact fltN (by simp)
            · cases e
      exact this _ _
  · exact fltN (by decide)
theorem srcsF_N (n : Int) (ks : List D) (d : D) : FltN 10 (srcsF n ks d) := by
  unfold srcsF
  split
  · split
    · exact fltN (by decide)
    · exact firstF_N (n := 1) (srcF_N n ks) (by simp) _ _
  · exact fltN (by decide)
theorem isRow_four {d : D} (h : isRow 4 4 d = true) : ∃ a b c e, d = .tuple [a, b, c, e] := by
  cases d <;> try (cases h; done)
  rename_i ds
  have : ds.length = 4 := by
    simp [isRow] at h
    omega
  match ds, this with
  | [a, b, c, e], _ => exact ⟨a, b, c, e, rfl⟩
theorem firstG_all {g : Nat → D → Option D} : ∀ (xs : List D) (k : Nat), firstG g k xs = none → ∀ (j : Nat) x, xs[j]? = some x → g (k + j) x = none
  | [], _, _, _, _, e => nomatch e
  | x :: xs, k, h, j, y, e => by
    cases z : g k x with
    | some d => rw [firstG_yes z] at h; cases h
    | none =>
      rw [firstG_no z] at h
      cases j with
      | zero => cases e; exact z
      | succ j =>
        have := firstG_all xs (k + 1) h j y e
        rw [show k + (j + 1) = k + 1 + j by omega]
        exact this
def nms (ks : List D) : Bool := ks.all isName
theorem gK_nms {ds : List D} (h : firstG (gK ds) 0 ds = none) : nms ds = true := by
  unfold nms
  rw [List.all_eq_true]
  intro x hx
  obtain ⟨k, hk⟩ := List.getElem?_of_mem hx
  have := firstG_all ds 0 h k x hk
  unfold gK at this
  split at this
  · cases this
  · rename_i hb
    unfold badK at hb
    cases z : isName x with
    | true => rfl
    | false => rw [z] at hb; simp at hb
theorem nms_okK {ks : List D} (h : nms ks = true) : okK (.tuple ks) = true := by
  show ks.all isStrD = true
  rw [List.all_eq_true]
  intro x hx
  obtain ⟨z, rfl⟩ := isName_str (List.all_eq_true.mp h x hx)
  rfl
theorem kindsF_nms {ks : List D} (h : kindsF (.tuple ks) = .none) : nms ks = true := by
  have h : (if isRow 1 4 (.tuple ks) = false then flt [1] "kinds" else orN (firstG (gK ks) 0 ks)) = .none := h
  split at h
  · cases h
  · refine gK_nms ?_
    cases hg : firstG (gK ks) 0 ks with
    | none => rfl
    | some d =>
      rw [hg] at h
      have h : d = .none := h
      subst h
      have : ∀ (ys : List D) (k : Nat), firstG (gK ks) k ys ≠ some .none := by
        intro ys
        induction ys with
        | nil => intro k z; cases z
        | cons y ys ih =>
          intro k z
          cases z2 : gK ks k y with
          | none => rw [firstG_no z2] at z; exact ih _ z
          | some d' =>
            rw [firstG_yes z2] at z
            cases z
            unfold gK at z2
            split at z2
            · cases z2
            · cases z2
      exact (this _ _ hg).elim
theorem kindsF_okK {ks : List D} (h : kindsF (.tuple ks) = .none) : okK (.tuple ks) = true := nms_okK (kindsF_nms h)
theorem kindsF_tup {d : D} (h : kindsF d = .none) : ∃ ks, d = .tuple ks := by
  cases d <;> first | exact ⟨_, rfl⟩ | (cases h; done)
theorem ok_worldF {f : Addr} {fd : FuncData} {t1 : Tok} (F : Fun K "worldfault" "worldfault" s_worldfault f fd) (g_ROUND : mg "ROUND" = some (.int 6 t1))
    (C_is_row : Cl P w K mg base 1 "is_row" ["thing", "fewest", "most"] (spD 3 sRow)) (C_is_number_from : Cl P w K mg base 2 "is_number_from" ["thing", "low", "high"] (spD 3 sFrom)) (C_kinds_fault : Cl P w K mg base 2 "kinds_fault" ["kinds"] (spD 1 sKindsF)) (C_sources_fault : Cl P w K mg base 4 "sources_fault" ["span", "kinds", "sources"] (spD 3 sSrcs)) (C_ways_fault : Cl P w K mg base 6 "ways_fault" ["span", "kinds", "ways"] (spD 3 sWays)) : FnOk P w K mg base CX0 7 f fd ["thing"] (spD 1 sWorldF) := by
  refine okFn F sc_worldfault rfl fun cdv A outer s H E hr => ⟨_, (dSs_cons (dS_if (dT_not (dT_val (dE_cl C_is_row (hr.mono (by omega)) (by rfl) (dA_cons (dE_var (μ := true) (pv 0)) (dA_cons (dE_c (μ := true) pe_int) (dA_cons (dE_c (μ := true) pe_int) (dA_nil (μ := true))))))))
    (dSs_one (dS_ret (ps_ret (dE_tup (dA_cons (dE_tup (dA_nil (μ := true))) (dA_cons (dE_c (μ := true) pe_str) (dA_nil (μ := true))))))))
    dSs_nil)
  (dSs_cons (dS_asg (K := K) (p := (.tp (.cons (.nm 1) (.cons (.nm 2) (.cons (.nm 3) (.cons (.nm 4) .nil)))))) (ps_asg (dE_var (μ := true) (pv 0)) (pg_tup (by rfl) (pgs_cons (pg_name (i := 1) sc_worldfault.nd rfl (.inl rfl)) (pgs_cons (pg_name (i := 2) sc_worldfault.nd rfl (.inl rfl)) (pgs_cons (pg_name (i := 3) sc_worldfault.nd rfl (.inl rfl)) (pgs_cons (pg_name (i := 4) sc_worldfault.nd rfl (.inl rfl)) pgs_nil)))))))
  (dSs_cons (dS_if (dT_not (dT_val (dE_cl C_is_number_from (hr.mono (by omega)) (by rfl) (dA_cons (dE_var (μ := true) (pv 1)) (dA_cons (dE_c (μ := true) pe_int) (dA_cons (dE_c (μ := true) (pe_glob (v := .int 6) (by rfl) g_ROUND ⟨_, rfl⟩)) (dA_nil (μ := true))))))))
    (dSs_one (dS_ret (ps_ret (dE_tup (dA_cons (dE_tup (dA_cons (dE_c (μ := true) pe_int) (dA_nil (μ := true)))) (dA_cons (dE_c (μ := true) pe_str) (dA_nil (μ := true))))))))
    dSs_nil)
  (dSs_one (dS_ret (ps_ret (dE_orT (dE_cl C_kinds_fault (hr.mono (by omega)) (by rfl) (dA_cons (dE_var (μ := true) (pv 2)) (dA_nil (μ := true)))) (dE_orT (dE_cl C_sources_fault (hr.mono (by omega)) (by rfl) (dA_cons (dE_var (μ := true) (pv 1)) (dA_cons (dE_var (μ := true) (pv 2)) (dA_cons (dE_var (μ := true) (pv 3)) (dA_nil (μ := true)))))) (dE_one (dE_cl C_ways_fault (hr.mono (by omega)) (by rfl) (dA_cons (dE_var (μ := true) (pv 1)) (dA_cons (dE_var (μ := true) (pv 2)) (dA_cons (dE_var (μ := true) (pv 4)) (dA_nil (μ := true))))))))))))))), fun ds d l e => ?_⟩
  match ds, e with
  | [x], e =>
    obtain ⟨ok, rfl⟩ := iteS e
    refine ⟨.rt (worldF x), ?_, rfl⟩
    refine (ev_guard (b := !isRow 4 4 x) rfl rfl).trans ?_
    cases h0 : isRow 4 4 x with
    | false =>
      have : worldF x = flt [] "world" := by
        unfold worldF
        split
        · cases h0
        · cases h0
        · rfl
      rw [this]
      rfl
    | true =>
      obtain ⟨a, b, c, e', rfl⟩ := isRow_four h0
      have ob := gq.tup ok b (by simp)
      have oc := gq.tup ok c (by simp)
      have oe := gq.tup ok e' (by simp)
      refine (ev_asg rfl rfl).trans ?_
      refine (ev_guard (b := !isFrom 1 6 a) rfl rfl).trans ?_
      cases h1 : isFrom 1 6 a with
      | false =>
        have : worldF (.tuple [a, b, c, e']) = flt [0] "round" := by
          unfold worldF
          split
          · rename_i e1; cases e1; rw [h1]; rfl
          · rename_i e1; cases e1; rw [h1]; rfl
          · rename_i e1; exact (e1 _ _ _ _ rfl).elim
        rw [this]
        rfl
      | true =>
        obtain ⟨n, rfl⟩ := isFrom_int h1
        by_cases hb : ∃ ks, b = .tuple ks
        · obtain ⟨ks, rfl⟩ := hb
          have ew : worldF (.tuple [.int n, .tuple ks, c, e']) = orF (kindsF (.tuple ks)) (orF (srcsF n ks c) (waysF n ks e')) := by simp only [worldF, h1]; rfl
          rw [ew]
          refine ev_ret (orT_F rfl (kindsF_N _) fun hk => ?_)
          have ob := kindsF_okK hk
          have es : sSrcs [.int n, .tuple ks, c] = some (srcsF n ks c) := if_pos (by rw [ob, oc]; rfl)
          have ey : sWays [.int n, .tuple ks, e'] = some (waysF n ks e') := if_pos (by rw [ob, oe]; rfl)
          exact orT_F (ev_call rfl rfl es) (srcsF_N n ks c) fun _ => ev_call rfl rfl ey
        · have hk : kindsF b ≠ .none := fun z => hb (kindsF_tup z)
          have ew : worldF (.tuple [.int n, b, c, e']) = kindsF b := by
            cases b <;> first | exact (hb ⟨_, rfl⟩).elim | (simp only [worldF, h1]; rfl)
          rw [ew]
          refine ev_ret ((orT_F (b := .none) (a := kindsF b) rfl (kindsF_N _) fun z => (hk z).elim).trans ?_)
          unfold orF
          split
          · rename_i z; exact (hk z).elim
          · rfl
end
end Dl
namespace Dl
open PySem PySem.Spec PyProof.Rows L2 Rt
def isStr : D → Bool
  | .str _ => true
  | _ => false
def sKindIn : List D → Option D
  | [.tuple ks, d] => if (okK (.tuple ks) && gq d) = true then some (.bool (isStr d && kindIn ks d)) else none
  | _ => none
theorem kindIn_str {ks : List D} {d : D} (h : nms ks = true) : (isStr d && kindIn ks d) = kindIn ks d := by
  cases d with
  | str z => rfl
  | _ =>
    symm
    show kindIn ks _ = false
    unfold kindIn
    rw [List.any_eq_false]
    intro z hz
    obtain ⟨y, rfl⟩ := isName_str (List.all_eq_true.mp h z hz)
    intro e
    cases e
theorem eqv_nil (xs : List D) : PyData.eqv (.list xs) (.list []) = xs.isEmpty := by cases xs <;> rfl
/-- hours told by their places -/
def desc (ns : List Int) (k : Nat) : Bool := match ns[k - 1]?, ns[k]? with
  | some a, some b => decide (a ≥ b)
  | _, _ => false
theorem ris_desc : ∀ (ns : List Int), ris ns = (List.range' 1 (ns.length - 1)).all fun k => !desc ns k := by
  intro ns
  unfold ris
  rw [Bool.eq_iff_iff, List.all_eq_true, List.all_eq_true]
  constructor
  · intro h k hk
    have hk := List.mem_range'_1.mp hk
    have h1 : k - 1 < ns.length := by omega
    have h2 : k < ns.length := by omega
    have hz : (ns.zip (ns.drop 1))[k - 1]? = some (ns[k - 1], ns[k]) := by
      rw [List.getElem?_zip_eq_some]
      refine ⟨List.getElem?_eq_getElem h1, ?_⟩
      rw [List.getElem?_drop, show 1 + (k - 1) = k by omega]
      exact List.getElem?_eq_getElem h2
    have := of_decide_eq_true (h _ (List.mem_of_getElem? hz))
    unfold desc
    rw [List.getElem?_eq_getElem h1, List.getElem?_eq_getElem h2]
    simp only [Bool.not_eq_true', decide_eq_false_iff_not]
    simp only at this
    omega
  · intro h p hp
    obtain ⟨i, hi⟩ := List.getElem?_of_mem hp
    rw [List.getElem?_zip_eq_some, List.getElem?_drop] at hi
    have h1 := (List.getElem?_eq_some_iff.mp hi.1).1
    have h2 := (List.getElem?_eq_some_iff.mp hi.2).1
    have := h (1 + i) (List.mem_range'_1.mpr ⟨by omega, by omega⟩)
    unfold desc at this
    rw [show 1 + i - 1 = i by omega, hi.1, hi.2] at this
    simp only [Bool.not_eq_true', decide_eq_false_iff_not] at this
    exact decide_eq_true (by omega)
theorem ris_pair : ∀ {ns : List Int}, ris ns = true → ∀ (i : Nat) a, ns[i]? = some a → ∀ lo, (∀ x ∈ ns, lo ≤ x) → lo + i ≤ a
  | ns, h, 0, a, ha, lo, hl => by
    have := hl a (List.mem_of_getElem? ha)
    omega
  | ns, h, i + 1, a, ha, lo, hl => by
    have h1 : i < ns.length := by
      have := (List.getElem?_eq_some_iff.mp ha).1
      omega
    have ih := ris_pair h i ns[i] (List.getElem?_eq_getElem h1) lo hl
    have hz : (ns.zip (ns.drop 1))[i]? = some (ns[i], a) := by
      rw [List.getElem?_zip_eq_some]
      refine ⟨List.getElem?_eq_getElem h1, ?_⟩
      rw [List.getElem?_drop, show 1 + i = i + 1 by omega]
      exact ha
    have := of_decide_eq_true ((List.all_eq_true.mp h) _ (List.mem_of_getElem? hz))
    simp only at this
    omega
theorem ris_len {ns : List Int} {n : Int} (h : ris ns = true) (hb : ∀ x ∈ ns, 0 ≤ x ∧ x ≤ n - 1) : (ns.length : Int) ≤ n ∨ ns = [] := by
  cases e : ns.length with
  | zero => exact .inr (List.length_eq_zero_iff.mp e)
  | succ m =>
    have hm : m < ns.length := by omega
    have h1 := ris_pair h m ns[m] (List.getElem?_eq_getElem hm) 0 (fun x hx => (hb x hx).1)
    have h2 := (hb ns[m] (List.getElem_mem hm)).2
    exact .inl (by omega)
def sRisW : List D → Option D
  | [d, .int n] => if gq d = true ∧ 1 ≤ n then some (.bool (hoursOk n d)) else none
  | _ => none
def sSrcW : List D → Option D
  | [.int n, .tuple ks, d] => if (nms ks && okK (.tuple ks) && gq d) = true then some (srcF n ks d) else none
  | _ => none
def sPartW : List D → Option D
  | [.tuple ks, d] => if (nms ks && okK (.tuple ks) && gq d) = true then some (partF ks d) else none
  | _ => none
section
variable {P : Program} {w : World} {K : PySem.W.Frag} {mg : Str → Option Value} {base : Heap}
theorem ok_is {f : Addr} {fd : FuncData} (F : Fun K "_law_is" "_law_is" s_law_is f fd) (m_isinstance : mg "isinstance" = none) (m_int : mg "int" = none) (m_bool : mg "bool" = none) : FnOk P w K mg base CX0 1 f fd ["_law_thing", "_law_low", "_law_high"] (spD 3 sFrom) := by
  refine okFn F sc_law_is rfl fun cdv A outer s H E hr => ⟨_, (dSs_one (dS_ret (ps_ret (dE_and (dE_isi (dE_var (μ := true) (pv 0)) (pe_bltn (v := .ty "int") (by rfl) m_int (by decide +kernel) rfl) (by rfl) m_isinstance (by decide +kernel)) (dE_and (dE_not (dE_isi (dE_var (μ := true) (pv 0)) (pe_bltn (v := .ty "bool") (by rfl) m_bool (by decide +kernel) rfl) (by rfl) m_isinstance (by decide +kernel))) (dE_one (dE_chain o_le o_le (dE_var (μ := true) (pv 1)) (dE_var (μ := true) (pv 0)) (dE_var (μ := true) (pv 2))))))))), fun ds d l e => ?_⟩
  match ds, e with
  | [x, .int lo, .int hi], e =>
    cases e
    refine ⟨.rt (.bool (isFrom lo hi x)), ?_, rfl⟩
    cases x <;> try rfl
    rename_i i
    by_cases h : lo ≤ i <;> simp [startR, sRet, eAnd, eNot, e1, isi_int, isi_bool, eVar, eChain, isFrom, leD, bB, h]
theorem ok_rowW {f : Addr} {fd : FuncData} (F : Fun K "_law_row_of" "_law_row_of" s_law_row_of f fd) (m_isinstance : mg "isinstance" = none) (m_tuple : mg "tuple" = none) (m_len : mg "len" = none) : FnOk P w K mg base CX0 1 f fd ["_law_thing", "_law_few", "_law_many"] (spD 3 sRow) := by
  refine okFn F sc_law_row_of rfl fun cdv A outer s H E hr => ⟨_, (dSs_one (dS_ret (ps_ret (dE_and (dE_isi (dE_var (μ := true) (pv 0)) (pe_bltn (v := .ty "tuple") (by rfl) m_tuple (by decide +kernel) rfl) (by rfl) m_isinstance (by decide +kernel)) (dE_one (dE_chain o_le o_le (dE_var (μ := true) (pv 1)) (dE_callB c_len (by rfl) m_len (by decide +kernel) (dA_cons (dE_var (μ := true) (pv 0)) (dA_nil (μ := true)))) (dE_var (μ := true) (pv 2)))))))), fun ds d l e => ?_⟩
  match ds, e with
  | [x, .int lo, .int hi], e =>
    cases e
    refine ⟨.rt (.bool (isRow lo hi x)), ?_, rfl⟩
    cases x <;> try rfl
    rename_i xs
    by_cases h : lo ≤ xs.length <;> simp [startR, sRet, eAnd, e1, isi_tuple, eChain, eCall, aCons, aNil, lenD, eVar, isRow, leD, bB, h]
theorem ok_kindW {f : Addr} {fd : FuncData} (F : Fun K "_law_kind_in" "_law_kind_in" s_law_kind_in f fd) (m_isinstance : mg "isinstance" = none) (m_str : mg "str" = none) : FnOk P w K mg base CX0 1 f fd ["_law_kinds_here", "_law_thing"] (spD 2 sKindIn) := by
  refine okFn F sc_law_kind_in rfl fun cdv A outer s H E hr => ⟨_, (dSs_one (dS_ret (ps_ret (dE_and (dE_isi (dE_var (μ := true) (pv 1)) (pe_bltn (v := .ty "str") (by rfl) m_str (by decide +kernel) rfl) (by rfl) m_isinstance (by decide +kernel)) (dE_one (dE_cmp (o_inS (u65 hr)) (dE_var (μ := true) (pv 1)) (dE_var (μ := true) (pv 0)) (by rfl))))))), fun ds d l e => ?_⟩
  match ds, e with
  | [.tuple ks, x], e =>
    obtain ⟨ok, rfl⟩ := iteS e
    have ok := Bool.and_eq_true_iff.mp ok
    refine ⟨.rt (.bool (isStr x && kindIn ks x)), ev_ret (ev_and (b := isStr x) ((isi_str x).trans (by cases x <;> rfl)) (fun h => ?_) (fun h => by rw [h]; rfl)), rfl⟩
    show inS x (.tuple ks) = _
    rw [inS_tup ok.2 ok.1, h]
    rfl
theorem ok_nameW {f : Addr} {fd : FuncData} (F : Fun K "_law_name" "_law_name" s_law_name f fd) (m_isinstance : mg "isinstance" = none) (m_str : mg "str" = none) (m_len : mg "len" = none) : FnOk P w K mg base CX0 1 f fd ["_law_thing"] (spD 1 fun ds => match ds with | [d] => if gq d = true then some (.bool (isName d)) else none | _ => none) := by
  refine okFn F sc_law_name rfl fun cdv A outer s H E hr => ⟨_, (dSs_cons (dS_if (PW.pt (dW_or (dT_not (dT_val (dE_isi (dE_var (μ := true) (pv 0)) (pe_bltn (v := .ty "str") (by rfl) m_str (by decide +kernel) rfl) (by rfl) m_isinstance (by decide +kernel)))) (dW_or1 (dT_not (dT_chain o_le o_le (dE_c (μ := true) pe_int) (dE_callB c_len (by rfl) m_len (by decide +kernel) (dA_cons (dE_var (μ := true) (pv 0)) (dA_nil (μ := true)))) (dE_c (μ := true) pe_int))))))
    (dSs_one (dS_ret (ps_ret (dE_c (μ := true) pe_bl))))
    dSs_nil)
  (dSs_one (dS_ret (ps_ret (dE_cmp (o_eq hr.units) (dE_lc (K := K) (p := (.nm 1)) (pe_lc (own := [("_law_sign", 1)]) (g := gP K (.nm 1)) rfl sc_law_name.nd (dI_str (dE_var (μ := true) (pv 0))) (blkOk_by (own := [("_law_sign", 1)]) (N := ["_law_thing", "_law_sign"]) (sc := defScope s_law_name) (by decide +kernel)) (fun _ _ _ _ _ => (pg_name (i := 1) sc_law_name.nd rfl (.inl rfl))) (fun _ _ _ _ _ => (pts_one (dT_cmp (o_nin (u65 hr)) (dE_var (μ := true) (pv 1)) (dE_c (μ := true) pe_str) (by rfl)))) (fun _ _ _ _ _ => (dE_var (μ := true) (pv 1))))) (dE_lst (dA_nil (μ := true))) (nomark _)))))), fun ds d l e => ?_⟩
  match ds, e with
  | [x], e =>
    obtain ⟨ok, rfl⟩ := iteS e
    refine ⟨.rt (.bool (isName x)), ?_, rfl⟩
    by_cases hs : ∃ z, x = .str z
    · obtain ⟨z, rfl⟩ := hs
      refine (ev_guard (b := !(decide (1 ≤ (z.length : Int)) && decide ((z.length : Int) ≤ 8))) ?_ rfl).trans ?_
      · refine (ev_oOr (b := false) (ev_not (b := true) (ev_oB ((isi_str (.str z)).trans rfl)))).trans ?_
        refine ev_not (ev_oB ?_)
        by_cases h : 1 ≤ (z.length : Int)
        · simp [eChain, eC, eCall, aCons, aNil, eVar, lenD, leD, bB, startR, h]
        · simp [eChain, eC, eCall, aCons, aNil, eVar, lenD, leD, bB, startR, h]
      · cases h1 : (decide (1 ≤ (z.length : Int)) && decide ((z.length : Int) ≤ 8)) with
        | false => simp only [isName, h1]; rfl
        | true =>
          have lc := ev_lcIf (i := 1) (c := oB (e2 ninD (eVar 1) (eC (.str (Str.ofString "abcdefghijklmnopqrstuvwxyz"))))) (f := eVar 1) (ρ := [some (.dat (.str z)), none]) (k := fun x => (match x with | .str s => (match s.cps.toList with | [c] => !decide (c ∈ LET) | _ => false) | _ => false)) (t := id) (by show 1 < 2; decide) (strL z) (fun x hx => by
            obtain ⟨c, _, rfl⟩ := List.mem_map.mp hx
            rfl) (fun x hx _ => rfl)
          refine ev_ret ?_
          unfold e2
          rw [ev_lcE (items := strL z) rfl lc]
          show eqD _ _ = _
          rw [List.map_id, eq_ok (okL fun d m => ?_) ok_nil, eqv_nil]
          · simp only [isName, h1, Bool.true_and]
            congr 2
            unfold strL
            rw [Bool.eq_iff_iff, List.isEmpty_iff, List.filter_eq_nil_iff, List.all_eq_true]
            constructor
            · intro h c hc
              have := h (.str ⟨#[c]⟩) (List.mem_map.mpr ⟨c, hc, rfl⟩)
              simpa using this
            · intro h x hx
              obtain ⟨c, hc, rfl⟩ := List.mem_map.mp hx
              have := h c hc
              simpa using this
          · have m := (List.mem_filter.mp m).1
            obtain ⟨c, hc, rfl⟩ := List.mem_map.mp m
            have o3 : PyData.strOk z = true := ok
            have o4 : c < 1114112 := by
              unfold PyData.strOk at o3
              rw [Array.all_eq_true'] at o3
              exact of_decide_eq_true (o3 c (Array.mem_toList_iff.mp hc))
            refine ⟨?_, Nat.zero_le _⟩
            show (true && (PyData.strOk ⟨#[c]⟩ && true)) = true
            simp [PyData.strOk, o4]
    · have hn : isName x = false := by
        cases x <;> first | rfl | exact (hs ⟨_, rfl⟩).elim
      rw [hn]
      refine (ev_guard (b := true) ?_ rfl).trans rfl
      refine (ev_oOr (b := true) (ev_not (b := false) (ev_oB ((isi_str x).trans ?_)))).trans rfl
      cases x <;> first | rfl | exact (hs ⟨_, rfl⟩).elim
end
end Dl
namespace Dl
open PySem PySem.Spec PyProof.Rows L2 Rt
def isTup : D → Bool
  | .tuple _ => true
  | _ => false
theorem isi_tup (d : D) : isTy "tuple" d = some (.bool (isTup d)) := (isi_tuple d).trans (by cases d <;> rfl)
def sRisX : List D → Option D
  | [d, .int n] => if gq d = true ∧ 1 ≤ n then some (.bool (hoursOk n d)) else none
  | _ => none
theorem atI_ints {ns : List Int} {k : Nat} {a : Int} (h : ns[k]? = some a) : L2.atI (ns.map PyData.int) (k : Int) = some (.int a) := atI_nat (by rw [List.getElem?_map, h]; rfl)
section
variable {P : Program} {w : World} {K : PySem.W.Frag} {mg : Str → Option Value} {base : Heap}
theorem ok_risW {f : Addr} {fd : FuncData} (F : Fun K "_law_rising" "_law_rising" s_law_rising f fd) (m_isinstance : mg "isinstance" = none) (m_tuple : mg "tuple" = none) (m_range : mg "range" = none) (m_len : mg "len" = none) (C__law_is : Cl P w K mg base 1 "_law_is" ["_law_thing", "_law_low", "_law_high"] (spD 3 sFrom)) : FnOk P w K mg base CX0 2 f fd ["_law_thing", "_law_many"] (spD 2 sRisX) := by
  refine okFn F sc_law_rising rfl fun cdv A outer s H E hr => ⟨_, (dSs_cons (dS_if (dT_not (dT_val (dE_isi (dE_var (μ := true) (pv 0)) (pe_bltn (v := .ty "tuple") (by rfl) m_tuple (by decide +kernel) rfl) (by rfl) m_isinstance (by decide +kernel))))
    (dSs_one (dS_ret (ps_ret (dE_c (μ := true) pe_bl))))
    dSs_nil)
  (dSs_cons (dS_if (dT_cmp (o_neL0 hr.units) (dE_lc (K := K) (p := (.nm 2)) (pe_lc (own := [("_law_one_here", 2)]) (g := gP K (.nm 2)) rfl sc_law_rising.nd (dI_seq (dE_var (μ := true) (pv 0))) (blkOk_by (own := [("_law_one_here", 2)]) (N := ["_law_thing", "_law_many", "_law_one_here", "_law_k"]) (sc := defScope s_law_rising) (by decide +kernel)) (fun _ _ _ _ _ => (pg_name (i := 2) sc_law_rising.nd rfl (.inl rfl))) (fun _ _ _ _ _ => (pts_one (dT_not (dT_val (dE_cl C__law_is (hr.mono (by omega)) (by rfl) (dA_cons (dE_var (μ := true) (pv 2)) (dA_cons (dE_c (μ := true) pe_int) (dA_cons (dE_op o_sub (dE_var (μ := true) (pv 1)) (dE_c (μ := true) pe_int)) (dA_nil (μ := true)))))))))) (fun _ _ _ _ _ => (dE_var (μ := true) (pv 2))))) (dE_lst (dA_nil (μ := true))) (nomark _))
    (dSs_one (dS_ret (ps_ret (dE_c (μ := true) pe_bl))))
    dSs_nil)
  (dSs_one (dS_ret (ps_ret (dE_cmp (o_eq hr.units) (dE_lc (K := K) (p := (.nm 3)) (pe_lc (own := [("_law_k", 3)]) (g := gP K (.nm 3)) rfl sc_law_rising.nd (dI_ran2 (by rfl) m_range (dA_cons (dE_c (μ := true) pe_int) (dA_cons (dE_callB c_len (by rfl) m_len (by decide +kernel) (dA_cons (dE_var (μ := true) (pv 0)) (dA_nil (μ := true)))) (dA_nil (μ := true))))) (blkOk_by (own := [("_law_k", 3)]) (N := ["_law_thing", "_law_many", "_law_one_here", "_law_k"]) (sc := defScope s_law_rising) (by decide +kernel)) (fun _ _ _ _ _ => (pg_name (i := 3) sc_law_rising.nd rfl (.inl rfl))) (fun _ _ _ _ _ => (pts_one (dT_cmp o_ge (dE_ix (dE_var (μ := true) (pv 0)) (dE_op o_sub (dE_var (μ := true) (pv 3)) (dE_c (μ := true) pe_int))) (dE_ix (dE_var (μ := true) (pv 0)) (dE_var (μ := true) (pv 3))) (nomark _)))) (fun _ _ _ _ _ => (dE_var (μ := true) (pv 3))))) (dE_lst (dA_nil (μ := true))) (nomark _))))))), fun ds d l e => ?_⟩
  match ds, e with
  | [x, .int n], e =>
    obtain ⟨⟨ok, n1⟩, rfl⟩ := iteS e
    refine ⟨.rt (.bool (hoursOk n x)), ?_, rfl⟩
    refine (ev_guard (b := !isTup x) (ev_not (ev_oB (isi_tup x))) rfl).trans ?_
    by_cases ht : ∃ xs, x = .tuple xs
    · obtain ⟨xs, rfl⟩ := ht
      refine (show (if (!true) = true then _ else _) = _ from if_neg (by decide)).trans ?_
      have sml := (gq.two ok).1
      have lc1 : eLc true [2] (itSeq (eVar 0)) (.nm 2) (oNot (oB (eCall (gN 3 sFrom) (aCons (eVar 2) (aCons (eC (.int 0)) (aCons (e2 subD (eVar 1) (eC (.int 1))) aNil)))))) (eVar 2) (startR 4 [.tuple xs, .int n]) = some (.list (xs.filter fun x => !isFrom 0 (n - 1) x)) := by
        refine (ev_lcE rfl (ev_lcIf (k := fun x => !isFrom 0 (n - 1) x) (t := id) (by show 2 < 4; decide) xs (fun x hx => rfl) (fun x hx _ => rfl))).trans (by rw [List.map_id])
      refine (ev_guard (b := !(xs.filter fun x => !isFrom 0 (n - 1) x).isEmpty) (ev_oB (ev_e2 lc1 rfl rfl)) rfl).trans ?_
      have fe : (xs.filter fun x => !isFrom 0 (n - 1) x).isEmpty = xs.all (isFrom 0 (n - 1)) := by
        rw [Bool.eq_iff_iff, List.isEmpty_iff, List.filter_eq_nil_iff, List.all_eq_true]
        constructor
        · intro h y hy
          simpa using h y hy
        · intro h y hy
          simpa using h y hy
      rw [fe]
      cases ha : xs.all (isFrom 0 (n - 1)) with
      | false => simp only [hoursOk, ha, Bool.false_and, Bool.and_false]; rfl
      | true =>
        refine (show (if (!true) = true then _ else _) = _ from if_neg (by decide)).trans ?_
        obtain ⟨ns, en⟩ := ints_of ha
        have ex := ints_eq en
        have hb : ∀ y ∈ ns, 0 ≤ y ∧ y ≤ n - 1 := fun y hy => by
          have := List.all_eq_true.mp ha (.int y) (by rw [ex]; exact List.mem_map.mpr ⟨y, hy, rfl⟩)
          simpa [isFrom] using this
        have hl : xs.length = ns.length := by rw [ex, List.length_map]
        have hO : hoursOk n (.tuple xs) = ris ns := by
          simp only [hoursOk, ha, en, Bool.true_and]
          cases hr : ris ns with
          | false => rw [Bool.and_false]
          | true =>
            rw [Bool.and_true]
            show (decide ((0 : Int) ≤ xs.length) && decide ((xs.length : Int) ≤ n)) = true
            rcases ris_len hr hb with h | h
            · simp; omega
            · rw [hl, h]; simp; omega
        rw [hO, ris_desc]
        have itr : itG ran2D (aCons (eC (.int 1)) (aCons (eCall lenD (aCons (eVar 0) aNil)) aNil)) (startR 4 [.tuple xs, .int n]) = some (rgD 1 (ns.length - 1)) := by
          have r2 := ran2_ok (i := 1) (j := xs.length) (by decide) (by decide) (by omega) (by omega) (by omega)
          rw [show ((xs.length : Int) - 1).toNat = ns.length - 1 by omega] at r2
          exact ev_itG rfl r2
        have lc2 : eLc true [3] (itG ran2D (aCons (eC (.int 1)) (aCons (eCall lenD (aCons (eVar 0) aNil)) aNil))) (.nm 3) (oB (e2 geD (e2 ixD (eVar 0) (e2 subD (eVar 3) (eC (.int 1)))) (e2 ixD (eVar 0) (eVar 3)))) (eVar 3) (startR 4 [.tuple xs, .int n]) = some (.list (((rgD 1 (ns.length - 1)).filter fun x => match x with | .int k => desc ns k.toNat | _ => false).map id)) := ev_lcE (μ := true) (vs := [3]) itr (ev_lcIf (i := 3) (c := oB (e2 geD (e2 ixD (eVar 0) (e2 subD (eVar 3) (eC (.int 1)))) (e2 ixD (eVar 0) (eVar 3)))) (f := eVar 3) (ρ := [some (.dat (.tuple xs)), some (.dat (.int n)), none, none]) (k := fun x => match x with | .int k => desc ns k.toNat | _ => false) (t := id) (by show 3 < 4; decide) (rgD 1 (ns.length - 1)) (fun x hx => by
          obtain ⟨i, hi, rfl⟩ := List.mem_map.mp hx
          have hi := List.mem_range.mp hi
          have h1 : i < ns.length := by omega
          have h2 : 1 + i < ns.length := by omega
          show (((L2.atI xs ((1 : Int) + i - 1)).bind fun a => (L2.atI xs ((1 : Int) + i)).bind fun b => geD a b).bind bB) = _
          rw [show (1 : Int) + i - 1 = (i : Nat) by omega, show (1 : Int) + i = ((1 + i : Nat) : Int) by omega, ex, atI_ints (List.getElem?_eq_getElem h1), atI_ints (List.getElem?_eq_getElem h2)]
          show some (decide (ns[i] ≥ ns[1 + i])) = some (desc ns ((1 + i : Nat) : Int).toNat)
          unfold desc
          rw [Int.toNat_natCast, show 1 + i - 1 = i by omega, List.getElem?_eq_getElem h1, List.getElem?_eq_getElem h2]) (fun x hx _ => rfl))
        refine ev_ret (ev_e2 lc2 rfl ?_)
        rw [List.map_id, eq_ok (okL fun d m => ?_) ok_nil, eqv_nil]
        · refine congrArg (fun b => some (PyData.bool b)) ?_
          rw [Bool.eq_iff_iff, List.isEmpty_iff, List.filter_eq_nil_iff, List.all_eq_true]
          constructor
          · intro h k hk
            have hk := List.mem_range'_1.mp hk
            have := h (.int (1 + (k - 1 : Nat))) (List.mem_map.mpr ⟨k - 1, List.mem_range.mpr (by omega), rfl⟩)
            rw [show (1 : Int) + (k - 1 : Nat) = (k : Nat) by omega] at this
            simpa using this
          · intro h x hx
            obtain ⟨i, hi, rfl⟩ := List.mem_map.mp hx
            have hi := List.mem_range.mp hi
            have := h (1 + i) (List.mem_range'_1.mpr ⟨by omega, by omega⟩)
            show ¬ desc ns ((1 : Int) + i).toNat = true
            rw [show ((1 : Int) + i).toNat = 1 + i by omega]
            simpa using this
        · obtain ⟨i, _, rfl⟩ := List.mem_map.mp (List.mem_filter.mp m).1
          exact ok_int _
    · have hn : hoursOk n x = false := by
        cases x <;> first | rfl | exact (ht ⟨_, rfl⟩).elim
      rw [hn]
      cases x <;> first | rfl | exact (ht ⟨_, rfl⟩).elim
def sPut : List D → Option D
  | [.tuple r, .int i, d] => if 0 ≤ i ∧ i < r.length ∧ r.length ≤ 1000 then some (.tuple (r.set i.toNat d)) else none
  | _ => none
theorem cut_to {α : Type} {xs : List α} {m : Nat} (h : m ≤ xs.length) : cutD xs none (some (m : Int)) = xs.take m := by
  unfold cutD
  rw [HT.sIx_none, HT.sIx_nat, List.drop_zero, Nat.sub_zero, Nat.min_eq_left h]
theorem cut_fr {α : Type} {xs : List α} {m : Nat} (h : m ≤ xs.length) : cutD xs (some (m : Int)) none = xs.drop m := by
  unfold cutD
  rw [HT.sIx_none, HT.sIx_nat, Nat.min_eq_left h, List.take_of_length_le (by rw [List.length_drop]; omega)]
end
end Dl
namespace Dl
open PySem PySem.Spec PyProof.Rows L2 Rt
def sSrcX : List D → Option D
  | [.int n, .tuple ks, d] => if (nms ks && okK (.tuple ks) && gq d) = true then some (srcF n ks d) else none
  | _ => none
def sPartX : List D → Option D
  | [.tuple ks, d] => if (nms ks && okK (.tuple ks) && gq d) = true then some (partF ks d) else none
  | _ => none
def sWayX : List D → Option D
  | [.int n, .tuple ks, d] => if (nms ks && okK (.tuple ks) && gq d) = true ∧ 1 ≤ n then some (wayF n ks d) else none
  | _ => none
def sWorldX : List D → Option D
  | [d] => if gq d = true then some (worldF d) else none
  | _ => none
def gS (n : Int) (k : Nat) (x : D) : Option D := match k with
  | 0 => if isFrom 0 20 x = true then none else some (flt [1] "age")
  | 1 => if isFrom 0 (n - 1) x = true then none else some (flt [2] "place")
  | 2 => if isFrom 0 1000000 x = true then none else some (flt [3] "since")
  | 3 => if isFrom 1 9 x = true then none else some (flt [4] "many")
  | _ => none
theorem and3 {a b c : Bool} (h : (a && b && c) = true) : a = true ∧ b = true ∧ c = true := by
  cases a <;> cases b <;> cases c <;> simp at h ⊢
theorem ixN4 {α : Type} (a b c d : α) : L2.atI [a, b, c, d] 0 = some a ∧ L2.atI [a, b, c, d] 1 = some b ∧ L2.atI [a, b, c, d] 2 = some c ∧ L2.atI [a, b, c, d] 3 = some d := ⟨rfl, rfl, rfl, rfl⟩
section
variable {P : Program} {w : World} {K : PySem.W.Frag} {mg : Str → Option Value} {base : Heap}
theorem ok_partW {f : Addr} {fd : FuncData} (F : Fun K "_law_part_word" "_law_part_word" s_law_part_word f fd) (m_int : mg "int" = none)
    (C__law_row_of : Cl P w K mg base 1 "_law_row_of" ["_law_thing", "_law_few", "_law_many"] (spD 3 sRow)) (C__law_is : Cl P w K mg base 1 "_law_is" ["_law_thing", "_law_low", "_law_high"] (spD 3 sFrom)) (C__law_kind_in : Cl P w K mg base 1 "_law_kind_in" ["_law_kinds_here", "_law_thing"] (spD 2 sKindIn)) : FnOk P w K mg base CX0 2 f fd ["_law_kinds_here", "_law_part_here"] (spD 2 sPartX) := by
  refine okFn F sc_law_part_word rfl fun cdv A outer s H E hr => ⟨_, (dSs_cons (dS_if (dT_not (dT_val (dE_cl C__law_row_of (hr.mono (by omega)) (by rfl) (dA_cons (dE_var (μ := true) (pv 1)) (dA_cons (dE_c (μ := true) pe_int) (dA_cons (dE_c (μ := true) pe_int) (dA_nil (μ := true))))))))
    (dSs_one (dS_ret (ps_ret (dE_tup (dA_cons (dE_tup (dA_nil (μ := true))) (dA_cons (dE_c (μ := true) pe_str) (dA_nil (μ := true))))))))
    dSs_nil)
  (dSs_cons (dS_if (dT_not (dT_val (dE_cl C__law_kind_in (hr.mono (by omega)) (by rfl) (dA_cons (dE_var (μ := true) (pv 0)) (dA_cons (dE_ix (dE_var (μ := true) (pv 1)) (dE_c (μ := true) pe_int)) (dA_nil (μ := true)))))))
    (dSs_one (dS_ret (ps_ret (dE_tup (dA_cons (dE_tup (dA_cons (dE_c (μ := true) pe_int) (dA_nil (μ := true)))) (dA_cons (dE_c (μ := true) pe_str) (dA_nil (μ := true))))))))
    dSs_nil)
  (dSs_cons (dS_if (dT_not (dT_val (dE_cl C__law_is (hr.mono (by omega)) (by rfl) (dA_cons (dE_ix (dE_var (μ := true) (pv 1)) (dE_c (μ := true) pe_int)) (dA_cons (dE_c (μ := true) pe_int) (dA_cons (dE_c (μ := true) pe_int) (dA_nil (μ := true))))))))
    (dSs_one (dS_ret (ps_ret (dE_tup (dA_cons (dE_tup (dA_cons (dE_c (μ := true) pe_int) (dA_nil (μ := true)))) (dA_cons (dE_c (μ := true) pe_str) (dA_nil (μ := true))))))))
    dSs_nil)
  (dSs_one (dS_ret (ps_ret (dE_ix (dE_lst (dA_cons (dE_tup (dA_cons (dE_tup (dA_cons (dE_c (μ := true) pe_int) (dA_nil (μ := true)))) (dA_cons (dE_c (μ := true) pe_str) (dA_nil (μ := true))))) (dA_cons (dE_c (μ := true) pe_non) (dA_nil (μ := true))))) (dE_callTy c_int (by rfl) m_int (by decide +kernel) (dA_cons (dE_cl C__law_is (hr.mono (by omega)) (by rfl) (dA_cons (dE_ix (dE_var (μ := true) (pv 1)) (dE_c (μ := true) pe_int)) (dA_cons (dE_ix (dE_var (μ := true) (pv 1)) (dE_c (μ := true) pe_int)) (dA_cons (dE_c (μ := true) pe_int) (dA_nil (μ := true)))))) (dA_nil (μ := true))))))))))), fun ds d l e => ?_⟩
  match ds, e with
  | [.tuple ks, x], e =>
    obtain ⟨ok, rfl⟩ := iteS e
    obtain ⟨nk, ok1, gx⟩ := and3 ok
    refine ⟨.rt (partF ks x), ?_, rfl⟩
    refine (ev_guard (b := !isRow 3 3 x) rfl rfl).trans ?_
    cases h0 : isRow 3 3 x with
    | false =>
      have : partF ks x = flt [] "part" := by
        unfold partF
        split
        · cases h0
        · rfl
      rw [this]
      rfl
    | true =>
      obtain ⟨a, b, c, rfl⟩ := isRow_three h0
      have oa := gq.tup gx a (by simp)
      have ek : sKindIn [.tuple ks, a] = some (.bool (kindIn ks a)) := (if_pos (by rw [ok1, oa]; rfl)).trans (by rw [kindIn_str nk])
      refine (ev_guard (b := !kindIn ks a) (ev_not (ev_oB (ev_call rfl rfl ek))) rfl).trans ?_
      cases h1 : kindIn ks a with
      | false => simp only [partF, h1]; rfl
      | true =>
        refine (ev_guard (b := !isFrom 0 20 b) rfl rfl).trans ?_
        cases h2 : isFrom 0 20 b with
        | false =>
          simp only [partF, h1]
          cases b <;> try rfl
          simp only [h2]
          rfl
        | true =>
          obtain ⟨lo, rfl⟩ := isFrom_int h2
          have e1 : partF ks (.tuple [a, .int lo, c]) = (if isFrom lo 20 c = true then .none else flt [2] "greatest") := by
            simp only [partF, h1, h2]
            cases isFrom lo 20 c <;> rfl
          rw [e1]
          refine ev_ret ?_
          cases h3 : isFrom lo 20 c <;> exact (ev_e2 (a := .list [flt [2] "greatest", .none]) (b := .int (if isFrom lo 20 c = true then 1 else 0)) rfl rfl (by rw [h3]; rfl)).trans rfl
theorem ok_srcW {f : Addr} {fd : FuncData} (F : Fun K "_law_source_word" "_law_source_word" s_law_source_word f fd) (m_range : mg "range" = none)
    (C__law_row_of : Cl P w K mg base 1 "_law_row_of" ["_law_thing", "_law_few", "_law_many"] (spD 3 sRow)) (C__law_is : Cl P w K mg base 1 "_law_is" ["_law_thing", "_law_low", "_law_high"] (spD 3 sFrom)) (C__law_kind_in : Cl P w K mg base 1 "_law_kind_in" ["_law_kinds_here", "_law_thing"] (spD 2 sKindIn)) : FnOk P w K mg base CX0 2 f fd ["_law_size", "_law_kinds_here", "_law_source_here"] (spD 3 sSrcX) := by
  refine okFn F sc_law_source_word rfl fun cdv A outer s H E hr => ⟨_, (dSs_cons (dS_if (dT_not (dT_val (dE_cl C__law_row_of (hr.mono (by omega)) (by rfl) (dA_cons (dE_var (μ := true) (pv 2)) (dA_cons (dE_c (μ := true) pe_int) (dA_cons (dE_c (μ := true) pe_int) (dA_nil (μ := true))))))))
    (dSs_one (dS_ret (ps_ret (dE_tup (dA_cons (dE_tup (dA_nil (μ := true))) (dA_cons (dE_c (μ := true) pe_str) (dA_nil (μ := true))))))))
    dSs_nil)
  (dSs_cons (dS_if (dT_not (dT_val (dE_cl C__law_kind_in (hr.mono (by omega)) (by rfl) (dA_cons (dE_var (μ := true) (pv 1)) (dA_cons (dE_ix (dE_var (μ := true) (pv 2)) (dE_c (μ := true) pe_int)) (dA_nil (μ := true)))))))
    (dSs_one (dS_ret (ps_ret (dE_tup (dA_cons (dE_tup (dA_cons (dE_c (μ := true) pe_int) (dA_nil (μ := true)))) (dA_cons (dE_c (μ := true) pe_str) (dA_nil (μ := true))))))))
    dSs_nil)
  (dSs_cons (dS_asg (K := K) (p := .nm 3) (ps_set (i := 3) sc_law_source_word.nd rfl (.inl rfl) (dE_lst (dA_cons (dE_tup (dA_cons (dE_c (μ := true) pe_str) (dA_cons (dE_c (μ := true) pe_int) (dA_cons (dE_c (μ := true) pe_int) (dA_nil (μ := true)))))) (dA_cons (dE_tup (dA_cons (dE_c (μ := true) pe_str) (dA_cons (dE_c (μ := true) pe_int) (dA_cons (dE_op o_sub (dE_var (μ := true) (pv 0)) (dE_c (μ := true) pe_int)) (dA_nil (μ := true)))))) (dA_cons (dE_tup (dA_cons (dE_c (μ := true) pe_str) (dA_cons (dE_c (μ := true) pe_int) (dA_cons (dE_op o_pow (dE_c (μ := true) pe_int) (dE_c (μ := true) pe_int)) (dA_nil (μ := true)))))) (dA_cons (dE_tup (dA_cons (dE_c (μ := true) pe_str) (dA_cons (dE_c (μ := true) pe_int) (dA_cons (dE_c (μ := true) pe_int) (dA_nil (μ := true)))))) (dA_nil (μ := true)))))))))
  (dSs_cons (dS_for (K := K) (p := (.nm 4)) (ps_for PassesOwn.never rfl (dI_ran1 (by rfl) m_range (dA_cons (dE_c (μ := true) pe_int) (dA_nil (μ := true)))) (pg_name (i := 4) sc_law_source_word.nd rfl (.inl rfl))
    (dSs_cons (dS_asg (K := K) (p := (.tp (.cons (.nm 5) (.cons (.nm 6) (.cons (.nm 7) .nil))))) (ps_asg (dE_ix (dE_var (μ := true) (pv 3)) (dE_var (μ := true) (pv 4))) (pg_tup (by rfl) (pgs_cons (pg_name (i := 5) sc_law_source_word.nd rfl (.inl rfl)) (pgs_cons (pg_name (i := 6) sc_law_source_word.nd rfl (.inl rfl)) (pgs_cons (pg_name (i := 7) sc_law_source_word.nd rfl (.inl rfl)) pgs_nil))))))
  (dSs_one (dS_if (dT_not (dT_val (dE_cl C__law_is (hr.mono (by omega)) (by rfl) (dA_cons (dE_ix (dE_var (μ := true) (pv 2)) (dE_op o_add (dE_var (μ := true) (pv 4)) (dE_c (μ := true) pe_int))) (dA_cons (dE_var (μ := true) (pv 6)) (dA_cons (dE_var (μ := true) (pv 7)) (dA_nil (μ := true))))))))
    (dSs_one (dS_ret (ps_ret (dE_tup (dA_cons (dE_tup (dA_cons (dE_op o_add (dE_var (μ := true) (pv 4)) (dE_c (μ := true) pe_int)) (dA_nil (μ := true)))) (dA_cons (dE_var (μ := true) (pv 5)) (dA_nil (μ := true))))))))
    dSs_nil)))))
  (dSs_one (dS_ret (ps_ret (dE_c (μ := true) pe_non)))))))), fun ds d l e => ?_⟩
  match ds, e with
  | [.int n, .tuple ks, x], e =>
    obtain ⟨ok, rfl⟩ := iteS e
    obtain ⟨nk, ok1, gx⟩ := and3 ok
    refine ⟨.rt (srcF n ks x), ?_, rfl⟩
    refine (ev_guard (b := !isRow 5 5 x) rfl rfl).trans ?_
    cases h0 : isRow 5 5 x with
    | false =>
      have : srcF n ks x = flt [] "source" := by
        unfold srcF
        split
        · cases h0
        · rfl
      rw [this]
      rfl
    | true =>
      obtain ⟨a, b, c, e', f', rfl⟩ := isRow_five h0
      have oa := gq.tup gx a (by simp)
      have ek : sKindIn [.tuple ks, a] = some (.bool (kindIn ks a)) := (if_pos (by rw [ok1, oa]; rfl)).trans (by rw [kindIn_str nk])
      refine (ev_guard (b := !kindIn ks a) (ev_not (ev_oB (ev_call rfl rfl ek))) rfl).trans ?_
      cases h1 : kindIn ks a with
      | false => simp only [srcF, h1]; rfl
      | true =>
        let W : D := .list [.tuple [S "age", .int 0, .int 20], .tuple [S "place", .int 0, .int (n - 1)], .tuple [S "since", .int 0, .int 1000000], .tuple [S "many", .int 1, .int 9]]
        refine (ev_asg (d := W) (ρ' := [some (.dat (.int n)), some (.dat (.tuple ks)), some (.dat (.tuple [a, b, c, e', f'])), some (.dat W), none, none, none, none]) rfl rfl).trans ?_
        have fin : outG (.rt .none) (firstG (gS n) 0 [b, c, e', f']) = .rt (srcF n ks (.tuple [a, b, c, e', f'])) := by
          simp only [srcF, h1, firstG, gS]
          cases isFrom 0 20 b <;> cases isFrom 0 (n - 1) c <;> cases isFrom 0 1000000 e' <;> cases isFrom 1 9 f' <;> rfl
        rw [← fin]
        refine ev_rangeG (fun ρ => ∃ x y z u, ρ = [some (.dat (.int n)), some (.dat (.tuple ks)), some (.dat (.tuple [a, b, c, e', f'])), some (.dat W), x, y, z, u]) (.rt .none) (ev_itG rfl ((ran1_ok (j := 4) (by decide) (by decide)).trans rfl)) ⟨_, _, _, _, rfl⟩ (fun k x ρ ex gone i => ?_) (fun ρ i _ => by obtain ⟨x, y, z, u, rfl⟩ := i; rfl)
        obtain ⟨y1, y2, y3, y4, rfl⟩ := i
        match k, ex with
        | 0, ex =>
          cases ex
          refine ⟨[some (.dat (.int n)), some (.dat (.tuple ks)), some (.dat (.tuple [a, b, c, e', f'])), some (.dat W), some (.dat (.int 0)), y2, y3, y4], rfl, ?_⟩
          have st := ev_asg (g := sIf (oNot (oB (eCall (gN 3 sFrom) (aCons (e2 ixD (eVar 2) (e2 addD (eVar 4) (eC (.int 1)))) (aCons (eVar 6) (aCons (eVar 7) aNil)))))) (sRet (eTup (aCons (eTup (aCons (e2 addD (eVar 4) (eC (.int 1))) aNil)) (aCons (eVar 5) aNil)))) sNil) (p := .tp (.cons (.nm 5) (.cons (.nm 6) (.cons (.nm 7) .nil)))) (f := e2 ixD (eVar 3) (eVar 4)) (ρ := [some (.dat (.int n)), some (.dat (.tuple ks)), some (.dat (.tuple [a, b, c, e', f'])), some (.dat W), some (.dat (.int 0)), y2, y3, y4]) (ρ' := [some (.dat (.int n)), some (.dat (.tuple ks)), some (.dat (.tuple [a, b, c, e', f'])), some (.dat W), some (.dat (.int 0)), some (.dat (S "age")), some (.dat (.int 0)), some (.dat (.int 20))]) rfl rfl
          cases h : isFrom 0 20 b with
          | true => exact .inl ⟨by simp [gS, h], _, ⟨_, _, _, _, rfl⟩, st.trans ((ev_ifR (b := !isFrom 0 20 b) rfl).trans (by rw [h]; rfl))⟩
          | false => exact .inr ⟨_, by simp only [gS, h]; rfl, st.trans ((ev_ifR (b := !isFrom 0 20 b) rfl).trans (by rw [h]; rfl))⟩
        | 1, ex =>
          cases ex
          refine ⟨[some (.dat (.int n)), some (.dat (.tuple ks)), some (.dat (.tuple [a, b, c, e', f'])), some (.dat W), some (.dat (.int 1)), y2, y3, y4], rfl, ?_⟩
          have st := ev_asg (g := sIf (oNot (oB (eCall (gN 3 sFrom) (aCons (e2 ixD (eVar 2) (e2 addD (eVar 4) (eC (.int 1)))) (aCons (eVar 6) (aCons (eVar 7) aNil)))))) (sRet (eTup (aCons (eTup (aCons (e2 addD (eVar 4) (eC (.int 1))) aNil)) (aCons (eVar 5) aNil)))) sNil) (p := .tp (.cons (.nm 5) (.cons (.nm 6) (.cons (.nm 7) .nil)))) (f := e2 ixD (eVar 3) (eVar 4)) (ρ := [some (.dat (.int n)), some (.dat (.tuple ks)), some (.dat (.tuple [a, b, c, e', f'])), some (.dat W), some (.dat (.int 1)), y2, y3, y4]) (ρ' := [some (.dat (.int n)), some (.dat (.tuple ks)), some (.dat (.tuple [a, b, c, e', f'])), some (.dat W), some (.dat (.int 1)), some (.dat (S "place")), some (.dat (.int 0)), some (.dat (.int (n - 1)))]) rfl rfl
          cases h : isFrom 0 (n - 1) c with
          | true => exact .inl ⟨by simp [gS, h], _, ⟨_, _, _, _, rfl⟩, st.trans ((ev_ifR (b := !isFrom 0 (n - 1) c) rfl).trans (by rw [h]; rfl))⟩
          | false => exact .inr ⟨_, by simp only [gS, h]; rfl, st.trans ((ev_ifR (b := !isFrom 0 (n - 1) c) rfl).trans (by rw [h]; rfl))⟩
        | 2, ex =>
          cases ex
          refine ⟨[some (.dat (.int n)), some (.dat (.tuple ks)), some (.dat (.tuple [a, b, c, e', f'])), some (.dat W), some (.dat (.int 2)), y2, y3, y4], rfl, ?_⟩
          have st := ev_asg (g := sIf (oNot (oB (eCall (gN 3 sFrom) (aCons (e2 ixD (eVar 2) (e2 addD (eVar 4) (eC (.int 1)))) (aCons (eVar 6) (aCons (eVar 7) aNil)))))) (sRet (eTup (aCons (eTup (aCons (e2 addD (eVar 4) (eC (.int 1))) aNil)) (aCons (eVar 5) aNil)))) sNil) (p := .tp (.cons (.nm 5) (.cons (.nm 6) (.cons (.nm 7) .nil)))) (f := e2 ixD (eVar 3) (eVar 4)) (ρ := [some (.dat (.int n)), some (.dat (.tuple ks)), some (.dat (.tuple [a, b, c, e', f'])), some (.dat W), some (.dat (.int 2)), y2, y3, y4]) (ρ' := [some (.dat (.int n)), some (.dat (.tuple ks)), some (.dat (.tuple [a, b, c, e', f'])), some (.dat W), some (.dat (.int 2)), some (.dat (S "since")), some (.dat (.int 0)), some (.dat (.int 1000000))]) rfl rfl
          cases h : isFrom 0 1000000 e' with
          | true => exact .inl ⟨by simp [gS, h], _, ⟨_, _, _, _, rfl⟩, st.trans ((ev_ifR (b := !isFrom 0 1000000 e') rfl).trans (by rw [h]; rfl))⟩
          | false => exact .inr ⟨_, by simp only [gS, h]; rfl, st.trans ((ev_ifR (b := !isFrom 0 1000000 e') rfl).trans (by rw [h]; rfl))⟩
        | 3, ex =>
          cases ex
          refine ⟨[some (.dat (.int n)), some (.dat (.tuple ks)), some (.dat (.tuple [a, b, c, e', f'])), some (.dat W), some (.dat (.int 3)), y2, y3, y4], rfl, ?_⟩
          have st := ev_asg (g := sIf (oNot (oB (eCall (gN 3 sFrom) (aCons (e2 ixD (eVar 2) (e2 addD (eVar 4) (eC (.int 1)))) (aCons (eVar 6) (aCons (eVar 7) aNil)))))) (sRet (eTup (aCons (eTup (aCons (e2 addD (eVar 4) (eC (.int 1))) aNil)) (aCons (eVar 5) aNil)))) sNil) (p := .tp (.cons (.nm 5) (.cons (.nm 6) (.cons (.nm 7) .nil)))) (f := e2 ixD (eVar 3) (eVar 4)) (ρ := [some (.dat (.int n)), some (.dat (.tuple ks)), some (.dat (.tuple [a, b, c, e', f'])), some (.dat W), some (.dat (.int 3)), y2, y3, y4]) (ρ' := [some (.dat (.int n)), some (.dat (.tuple ks)), some (.dat (.tuple [a, b, c, e', f'])), some (.dat W), some (.dat (.int 3)), some (.dat (S "many")), some (.dat (.int 1)), some (.dat (.int 9))]) rfl rfl
          cases h : isFrom 1 9 f' with
          | true => exact .inl ⟨by simp [gS, h], _, ⟨_, _, _, _, rfl⟩, st.trans ((ev_ifR (b := !isFrom 1 9 f') rfl).trans (by rw [h]; rfl))⟩
          | false => exact .inr ⟨_, by simp only [gS, h]; rfl, st.trans ((ev_ifR (b := !isFrom 1 9 f') rfl).trans (by rw [h]; rfl))⟩
        | k + 4, ex => cases ex
end
end Dl
namespace Dl
open PySem PySem.Spec PyProof.Rows L2 Rt
theorem ev_cons {f : EF} {g : Rho → Option (List D)} {ρ : Rho} {d : D} {ds : List D} (h1 : f ρ = some d) (h2 : g ρ = some ds) : aCons f g ρ = some (d :: ds) := by
  unfold aCons
  rw [h1]
  show (g ρ).map _ = _
  rw [h2]
  rfl
theorem below_below (p q : List D) (d : D) : below p (below q d) = below (p ++ q) d := by
  unfold below
  split <;> simp_all
  · rename_i i w h
    split at h
    · cases h; simp
    · subst h; rename_i h2; exact (h2 _ _ rfl).elim
  · rename_i h
    split
    · rename_i i w
      split at h
      · exact (h _ _ rfl).elim
      · rename_i h2; exact (h2 _ _ rfl).elim
    · rfl
theorem below_first {p q : List D} {f : D → D} : ∀ (xs : List D) (k : Nat), below p (firstF q f k xs) = firstF (p ++ q) f k xs
  | [], _ => rfl
  | x :: xs, k => by
    by_cases h : f x = .none
    · rw [firstF_none h, firstF_none h, below_first xs (k + 1)]
    · rw [firstF_some h, firstF_some h, below_below, List.append_assoc]
def restF (n : Int) (c e f : D) : D := if keepsOk c = false then flt [2] "keeps" else if hoursOk n e = false then flt [3] "hours" else if isFrom 1 6 f = false then flt [4] "wait" else .none
theorem wayF_eq {n : Int} {ks : List D} {a b c e f : D} (h : kindIn ks a = true) : wayF n ks (.tuple [a, b, c, e, f]) = (match partsF ks b with | .none => restF n c e f | d => below [.int 1] d) := by
  simp only [wayF, h]
  rfl
theorem keeps_str {c : D} : (!isStr c || (!PyData.eqv c (S "oldest") && !PyData.eqv c (S "youngest"))) = !keepsOk c := by
  cases c with
  | str z =>
    have sy : ∀ y : Str, (z == y) = (y == z) := fun y => by rw [Bool.eq_iff_iff, beq_iff_eq, beq_iff_eq]; exact eq_comm
    show (!true || (!(z == Str.ofString "oldest") && !(z == Str.ofString "youngest"))) = !((Str.ofString "oldest" == z) || ((Str.ofString "youngest" == z) || false))
    rw [sy, sy]
    cases (Str.ofString "oldest" == z) <;> cases (Str.ofString "youngest" == z) <;> rfl
  | _ => rfl
theorem isi_strB (d : D) : isTy "str" d = some (.bool (isStr d)) := (isi_str d).trans (by cases d <;> rfl)
theorem okD_str {z : Str} (h : gq (.str z) = true) : okD (.str z) = true := by
  show (true && (PyData.strOk z && true)) = true
  rw [show PyData.strOk z = true from h]
  rfl
theorem ok_S {x : String} (h : okD (S x) = true := by decide +kernel) : okD (S x) = true := h
section
variable {P : Program} {w : World} {K : PySem.W.Frag} {mg : Str → Option Value} {base : Heap}
theorem ok_wayW {f : Addr} {fd : FuncData} (F : Fun K "_law_way_word" "_law_way_word" s_law_way_word f fd) (m_range : mg "range" = none) (m_len : mg "len" = none) (m_isinstance : mg "isinstance" = none) (m_str : mg "str" = none) (m_int : mg "int" = none)
    (C__law_row_of : Cl P w K mg base 1 "_law_row_of" ["_law_thing", "_law_few", "_law_many"] (spD 3 sRow)) (C__law_is : Cl P w K mg base 1 "_law_is" ["_law_thing", "_law_low", "_law_high"] (spD 3 sFrom)) (C__law_kind_in : Cl P w K mg base 1 "_law_kind_in" ["_law_kinds_here", "_law_thing"] (spD 2 sKindIn)) (C__law_part_word : Cl P w K mg base 2 "_law_part_word" ["_law_kinds_here", "_law_part_here"] (spD 2 sPartX)) (C__law_rising : Cl P w K mg base 2 "_law_rising" ["_law_thing", "_law_many"] (spD 2 sRisX)) : FnOk P w K mg base CX0 3 f fd ["_law_size", "_law_kinds_here", "_law_way_here"] (spD 3 sWayX) := by
  refine okFn F sc_law_way_word rfl fun cdv A outer s H E hr => ⟨_, (dSs_cons (dS_if (dT_not (dT_val (dE_cl C__law_row_of (hr.mono (by omega)) (by rfl) (dA_cons (dE_var (μ := true) (pv 2)) (dA_cons (dE_c (μ := true) pe_int) (dA_cons (dE_c (μ := true) pe_int) (dA_nil (μ := true))))))))
    (dSs_one (dS_ret (ps_ret (dE_tup (dA_cons (dE_tup (dA_nil (μ := true))) (dA_cons (dE_c (μ := true) pe_str) (dA_nil (μ := true))))))))
    dSs_nil)
  (dSs_cons (dS_if (dT_not (dT_val (dE_cl C__law_kind_in (hr.mono (by omega)) (by rfl) (dA_cons (dE_var (μ := true) (pv 1)) (dA_cons (dE_ix (dE_var (μ := true) (pv 2)) (dE_c (μ := true) pe_int)) (dA_nil (μ := true)))))))
    (dSs_one (dS_ret (ps_ret (dE_tup (dA_cons (dE_tup (dA_cons (dE_c (μ := true) pe_int) (dA_nil (μ := true)))) (dA_cons (dE_c (μ := true) pe_str) (dA_nil (μ := true))))))))
    dSs_nil)
  (dSs_cons (dS_if (dT_not (dT_val (dE_cl C__law_row_of (hr.mono (by omega)) (by rfl) (dA_cons (dE_ix (dE_var (μ := true) (pv 2)) (dE_c (μ := true) pe_int)) (dA_cons (dE_c (μ := true) pe_int) (dA_cons (dE_c (μ := true) pe_int) (dA_nil (μ := true))))))))
    (dSs_one (dS_ret (ps_ret (dE_tup (dA_cons (dE_tup (dA_cons (dE_c (μ := true) pe_int) (dA_nil (μ := true)))) (dA_cons (dE_c (μ := true) pe_str) (dA_nil (μ := true))))))))
    dSs_nil)
  (dSs_cons (dS_for (K := K) (p := (.nm 3)) (ps_for PassesOwn.never rfl (dI_ran1 (by rfl) m_range (dA_cons (dE_callB c_len (by rfl) m_len (by decide +kernel) (dA_cons (dE_ix (dE_var (μ := true) (pv 2)) (dE_c (μ := true) pe_int)) (dA_nil (μ := true)))) (dA_nil (μ := true)))) (pg_name (i := 3) sc_law_way_word.nd rfl (.inl rfl))
    (dSs_cons (dS_asg (K := K) (p := .nm 4) (ps_set (i := 4) sc_law_way_word.nd rfl (.inl rfl) (dE_cl C__law_part_word (hr.mono (by omega)) (by rfl) (dA_cons (dE_var (μ := true) (pv 1)) (dA_cons (dE_ix (dE_ix (dE_var (μ := true) (pv 2)) (dE_c (μ := true) pe_int)) (dE_var (μ := true) (pv 3))) (dA_nil (μ := true)))))))
  (dSs_one (dS_if (dT_cmp o_isnot (dE_var (μ := true) (pv 4)) (dE_c (μ := true) pe_non) (nomark _))
    (dSs_one (dS_ret (ps_ret (dE_tup (dA_cons (dE_op o_add (dE_tup (dA_cons (dE_c (μ := true) pe_int) (dA_cons (dE_var (μ := true) (pv 3)) (dA_nil (μ := true))))) (dE_ix (dE_var (μ := true) (pv 4)) (dE_c (μ := true) pe_int))) (dA_cons (dE_ix (dE_var (μ := true) (pv 4)) (dE_c (μ := true) pe_int)) (dA_nil (μ := true))))))))
    dSs_nil)))))
  (dSs_cons (dS_if (PW.pt (dW_or (dT_not (dT_val (dE_isi (dE_ix (dE_var (μ := true) (pv 2)) (dE_c (μ := true) pe_int)) (pe_bltn (v := .ty "str") (by rfl) m_str (by decide +kernel) rfl) (by rfl) m_isinstance (by decide +kernel)))) (dW_or1 (PW.pt (dW_and (dT_cmp (o_ne hr.units) (dE_ix (dE_var (μ := true) (pv 2)) (dE_c (μ := true) pe_int)) (dE_c (μ := true) pe_str) (nomark _)) (dW_and1 (dT_cmp (o_ne hr.units) (dE_ix (dE_var (μ := true) (pv 2)) (dE_c (μ := true) pe_int)) (dE_c (μ := true) pe_str) (nomark _))))))))
    (dSs_one (dS_ret (ps_ret (dE_tup (dA_cons (dE_tup (dA_cons (dE_c (μ := true) pe_int) (dA_nil (μ := true)))) (dA_cons (dE_c (μ := true) pe_str) (dA_nil (μ := true))))))))
    dSs_nil)
  (dSs_cons (dS_if (dT_not (dT_val (dE_cl C__law_rising (hr.mono (by omega)) (by rfl) (dA_cons (dE_ix (dE_var (μ := true) (pv 2)) (dE_c (μ := true) pe_int)) (dA_cons (dE_var (μ := true) (pv 0)) (dA_nil (μ := true)))))))
    (dSs_one (dS_ret (ps_ret (dE_tup (dA_cons (dE_tup (dA_cons (dE_c (μ := true) pe_int) (dA_nil (μ := true)))) (dA_cons (dE_c (μ := true) pe_str) (dA_nil (μ := true))))))))
    dSs_nil)
  (dSs_one (dS_ret (ps_ret (dE_ix (dE_lst (dA_cons (dE_tup (dA_cons (dE_tup (dA_cons (dE_c (μ := true) pe_int) (dA_nil (μ := true)))) (dA_cons (dE_c (μ := true) pe_str) (dA_nil (μ := true))))) (dA_cons (dE_c (μ := true) pe_non) (dA_nil (μ := true))))) (dE_callTy c_int (by rfl) m_int (by decide +kernel) (dA_cons (dE_cl C__law_is (hr.mono (by omega)) (by rfl) (dA_cons (dE_ix (dE_var (μ := true) (pv 2)) (dE_c (μ := true) pe_int)) (dA_cons (dE_c (μ := true) pe_int) (dA_cons (dE_c (μ := true) pe_int) (dA_nil (μ := true)))))) (dA_nil (μ := true)))))))))))))), fun ds d l e => ?_⟩
  match ds, e with
  | [.int n, .tuple ks, x], e =>
    obtain ⟨⟨ok, n1⟩, rfl⟩ := iteS e
    obtain ⟨nk, ok1, gx⟩ := and3 ok
    refine ⟨.rt (wayF n ks x), ?_, rfl⟩
    refine (ev_guard (b := !isRow 5 5 x) rfl rfl).trans ?_
    cases h0 : isRow 5 5 x with
    | false =>
      have : wayF n ks x = flt [] "way" := by
        unfold wayF
        split
        · cases h0
        · rfl
      rw [this]
      rfl
    | true =>
      obtain ⟨a, b, c, e', f', rfl⟩ := isRow_five h0
      have oa := gq.tup gx a (by simp)
      have gb := gq.tup gx b (by simp)
      have oc := gq.tup gx c (by simp)
      have ge := gq.tup gx e' (by simp)
      have ek : sKindIn [.tuple ks, a] = some (.bool (kindIn ks a)) := (if_pos (by rw [ok1, oa]; rfl)).trans (by rw [kindIn_str nk])
      refine (ev_guard (b := !kindIn ks a) (ev_not (ev_oB (ev_call rfl rfl ek))) rfl).trans ?_
      cases h1 : kindIn ks a with
      | false => simp only [wayF, h1]; rfl
      | true =>
        refine (ev_guard (b := !isRow 1 3 b) rfl rfl).trans ?_
        rw [wayF_eq h1]
        cases h2 : isRow 1 3 b with
        | false =>
          have : partsF ks b = flt [] "parts" := by
            unfold partsF
            split
            · rw [h2]; rfl
            · rfl
          rw [this]
          rfl
        | true =>
          obtain ⟨xs, rfl⟩ := isRow_tup h2
          have ep : partsF ks (.tuple xs) = firstF [] (partF ks) 0 xs := by simp only [partsF, h2]; rfl
          have xl : xs.length ≤ 3 := by
            simp [isRow] at h2
            omega
          have fin : outG (.rt (restF n c e' f')) (firstG (gF [.int 1] (partF ks)) 0 xs) = .rt (match partsF ks (.tuple xs) with | .none => restF n c e' f' | d => below [.int 1] d) := by
            rw [ep]
            have e1 := firstG_F (pre := [.int 1]) (f := partF ks) xs 0
            have e2 := below_first (p := [.int 1]) (q := []) (f := partF ks) xs 0
            rw [List.append_nil] at e2
            have hN : ∀ (ys : List D) (k : Nat) d, firstG (gF [.int 1] (partF ks)) k ys = some d → d ≠ .none := by
              intro ys
              induction ys with
              | nil => intro k d h; cases h
              | cons y ys ih =>
                intro k d h
                by_cases z : partF ks y = .none
                · rw [firstG_no (gF_none z)] at h; exact ih _ _ h
                · rw [firstG_yes (gF_some z)] at h
                  cases h
                  exact below_ne z
            cases hg : firstG (gF [.int 1] (partF ks)) 0 xs with
            | none =>
              rw [hg] at e1
              have e1 : PyData.none = firstF [.int 1] (partF ks) 0 xs := e1
              have z : firstF [] (partF ks) 0 xs = .none := by
                by_cases z : firstF [] (partF ks) 0 xs = .none
                · exact z
                · exact ((below_ne z) (e2.trans e1.symm)).elim
              rw [z]
              rfl
            | some d =>
              rw [hg] at e1
              have e1 : d = firstF [.int 1] (partF ks) 0 xs := e1
              have dn := hN _ _ _ hg
              have z : firstF [] (partF ks) 0 xs ≠ .none := fun z => by
                rw [z] at e2
                exact dn (e1.trans e2.symm)
              show Out.rt d = _
              rw [e1, ← e2]
              split
              · rename_i q; exact (z q).elim
              · rfl
          refine Eq.trans ?_ (congrArg some fin)
          refine ev_rangeG (fun ρ => ∃ x y, ρ = [some (.dat (.int n)), some (.dat (.tuple ks)), some (.dat (.tuple [a, .tuple xs, c, e', f'])), x, y]) (.rt (restF n c e' f')) (ev_itG (ds := [.int xs.length]) rfl ((ran1_ok (j := xs.length) (by omega) (by omega)).trans (by rw [Int.toNat_natCast]))) ⟨_, _, rfl⟩ (fun k x ρ ex gone i => ?_) (fun ρ i _ => ?_)
          · obtain ⟨y1, y2, rfl⟩ := i
            refine ⟨[some (.dat (.int n)), some (.dat (.tuple ks)), some (.dat (.tuple [a, .tuple xs, c, e', f'])), some (.dat (.int k)), y2], rfl, ?_⟩
            have gxx := gq.tup gb x (List.mem_of_getElem? ex)
            have ef : sPartX [.tuple ks, x] = some (partF ks x) := if_pos (by rw [nk, ok1, gxx]; rfl)
            have arg : (aCons (eVar 1) (aCons (e2 ixD (e2 ixD (eVar 2) (eC (.int 1))) (eVar 3)) aNil)) [some (.dat (.int n)), some (.dat (.tuple ks)), some (.dat (.tuple [a, .tuple xs, c, e', f'])), some (.dat (.int k)), y2] = some [.tuple ks, x] := by
              exact ev_cons rfl (ev_cons (ev_e2 (a := .tuple xs) (b := .int k) rfl rfl (atI_nat ex)) rfl)
            by_cases hn : partF ks x = .none
            · exact .inl ⟨gF_none hn, _, ⟨_, _, rfl⟩, (ev_asg (d := .none) (ρ' := [some (.dat (.int n)), some (.dat (.tuple ks)), some (.dat (.tuple [a, .tuple xs, c, e', f'])), some (.dat (.int k)), some (.dat .none)]) (ev_call arg rfl (ef.trans (by rw [hn]))) rfl).trans rfl⟩
            · refine .inr ⟨_, gF_some hn, ?_⟩
              rcases partF_N ks x with e | ⟨i, w, e, l⟩
              · exact (hn e).elim
              · refine (ev_asg (d := .tuple [.tuple i, w]) (ρ' := [some (.dat (.int n)), some (.dat (.tuple ks)), some (.dat (.tuple [a, .tuple xs, c, e', f'])), some (.dat (.int k)), some (.dat (.tuple [.tuple i, w]))]) (ev_call arg rfl (ef.trans (by rw [e]))) rfl).trans ?_
                refine (ev_ifR (b := true) rfl).trans (ev_ret ?_)
                show ((addD (.tuple [.int 1, .int k]) (.tuple i)).bind _).bind _ = _
                rw [add_tup (a := [.int 1, .int k]) (b := i) (show 2 + i.length ≤ sizeLine from sz (by omega)), e]
                rfl
          · obtain ⟨y1, y2, rfl⟩ := i
            refine (ev_guard (b := !keepsOk c) ?_ rfl).trans ?_
            · refine (ev_oOr (b := !isStr c) (ev_not (ev_oB (isi_strB c)))).trans ?_
              rw [← keeps_str]
              cases hs : isStr c with
              | false => rfl
              | true =>
                have oc : okD c = true := by
                  cases c <;> first | exact okD_str oc | (cases hs; done)
                refine (ev_oAnd (b := !PyData.eqv c (S "oldest")) (ev_oB (ne_ok oc ok_S))).trans ?_
                cases ho : PyData.eqv c (S "oldest") with
                | true => rfl
                | false => exact (ev_oB (b := !PyData.eqv c (S "youngest")) (ne_ok oc ok_S)).trans rfl
            unfold restF
            cases h3 : keepsOk c with
            | false => rfl
            | true =>
              have er : sRisX [e', .int n] = some (.bool (hoursOk n e')) := if_pos ⟨ge, n1⟩
              refine (ev_guard (b := !hoursOk n e') (ev_not (ev_oB (ev_call rfl rfl er))) rfl).trans ?_
              cases h4 : hoursOk n e' with
              | false => rfl
              | true =>
                refine ev_ret ?_
                cases h5 : isFrom 1 6 f' <;> exact (ev_e2 (a := .list [flt [4] "wait", .none]) (b := .int (if isFrom 1 6 f' = true then 1 else 0)) rfl rfl (by rw [h5]; rfl)).trans rfl
end
end Dl
namespace Dl
open PySem PySem.Spec PyProof.Rows L2 Rt
/-- a row gone through by places: what it tells, or what follows -/
theorem gF_out {pre : List D} {f : D → D} {xs : List D} {o : D} : outG (.rt o) (firstG (gF pre f) 0 xs) = .rt (orF (firstF pre f 0 xs) o) := by
  have hN : ∀ (ys : List D) (k : Nat) d, firstG (gF pre f) k ys = some d → d ≠ .none := by
    intro ys
    induction ys with
    | nil => intro k d h; cases h
    | cons y ys ih =>
      intro k d h
      by_cases z : f y = .none
      · rw [firstG_no (gF_none z)] at h; exact ih _ _ h
      · rw [firstG_yes (gF_some z)] at h
        cases h
        exact below_ne z
  rw [← firstG_F]
  cases hg : firstG (gF pre f) 0 xs with
  | none => rfl
  | some d =>
    have dn := hN _ _ _ hg
    show Out.rt d = .rt (orF d o)
    unfold orF
    split
    · exact (dn rfl).elim
    · rfl
def sNameX : List D → Option D := fun ds => match ds with | [d] => if gq d = true then some (.bool (isName d)) else none | _ => none
section
variable {P : Program} {w : World} {K : PySem.W.Frag} {mg : Str → Option Value} {base : Heap}
theorem ok_worldW {f : Addr} {fd : FuncData} (F : Fun K "_law_world_word" "_law_world_word" s_law_world_word f fd) (m_range : mg "range" = none) (m_len : mg "len" = none)
    (C__law_row_of : Cl P w K mg base 1 "_law_row_of" ["_law_thing", "_law_few", "_law_many"] (spD 3 sRow)) (C__law_is : Cl P w K mg base 1 "_law_is" ["_law_thing", "_law_low", "_law_high"] (spD 3 sFrom)) (C__law_name : Cl P w K mg base 1 "_law_name" ["_law_thing"] (spD 1 sNameX)) (C__law_source_word : Cl P w K mg base 2 "_law_source_word" ["_law_size", "_law_kinds_here", "_law_source_here"] (spD 3 sSrcX)) (C__law_way_word : Cl P w K mg base 3 "_law_way_word" ["_law_size", "_law_kinds_here", "_law_way_here"] (spD 3 sWayX)) : FnOk P w K mg base CX0 4 f fd ["_law_thing"] (spD 1 sWorldX) := by
  refine okFn F sc_law_world_word rfl fun cdv A outer s H E hr => ⟨_, (dSs_cons (dS_if (dT_not (dT_val (dE_cl C__law_row_of (hr.mono (by omega)) (by rfl) (dA_cons (dE_var (μ := true) (pv 0)) (dA_cons (dE_c (μ := true) pe_int) (dA_cons (dE_c (μ := true) pe_int) (dA_nil (μ := true))))))))
    (dSs_one (dS_ret (ps_ret (dE_tup (dA_cons (dE_tup (dA_nil (μ := true))) (dA_cons (dE_c (μ := true) pe_str) (dA_nil (μ := true))))))))
    dSs_nil)
  (dSs_cons (dS_if (dT_not (dT_val (dE_cl C__law_is (hr.mono (by omega)) (by rfl) (dA_cons (dE_ix (dE_var (μ := true) (pv 0)) (dE_c (μ := true) pe_int)) (dA_cons (dE_c (μ := true) pe_int) (dA_cons (dE_c (μ := true) pe_int) (dA_nil (μ := true))))))))
    (dSs_one (dS_ret (ps_ret (dE_tup (dA_cons (dE_tup (dA_cons (dE_c (μ := true) pe_int) (dA_nil (μ := true)))) (dA_cons (dE_c (μ := true) pe_str) (dA_nil (μ := true))))))))
    dSs_nil)
  (dSs_cons (dS_if (dT_not (dT_val (dE_cl C__law_row_of (hr.mono (by omega)) (by rfl) (dA_cons (dE_ix (dE_var (μ := true) (pv 0)) (dE_c (μ := true) pe_int)) (dA_cons (dE_c (μ := true) pe_int) (dA_cons (dE_c (μ := true) pe_int) (dA_nil (μ := true))))))))
    (dSs_one (dS_ret (ps_ret (dE_tup (dA_cons (dE_tup (dA_cons (dE_c (μ := true) pe_int) (dA_nil (μ := true)))) (dA_cons (dE_c (μ := true) pe_str) (dA_nil (μ := true))))))))
    dSs_nil)
  (dSs_cons (dS_for (K := K) (p := (.nm 1)) (ps_for PassesOwn.never rfl (dI_ran1 (by rfl) m_range (dA_cons (dE_callB c_len (by rfl) m_len (by decide +kernel) (dA_cons (dE_ix (dE_var (μ := true) (pv 0)) (dE_c (μ := true) pe_int)) (dA_nil (μ := true)))) (dA_nil (μ := true)))) (pg_name (i := 1) sc_law_world_word.nd rfl (.inl rfl))
    (dSs_one (dS_if (PW.pt (dW_or (dT_not (dT_val (dE_cl C__law_name (hr.mono (by omega)) (by rfl) (dA_cons (dE_ix (dE_ix (dE_var (μ := true) (pv 0)) (dE_c (μ := true) pe_int)) (dE_var (μ := true) (pv 1))) (dA_nil (μ := true)))))) (dW_or1 (PW.pt (dW_and (dT_cmp o_gt (dE_var (μ := true) (pv 1)) (dE_c (μ := true) pe_int) (nomark _)) (dW_and1 (dT_cmp o_ge (dE_ix (dE_ix (dE_var (μ := true) (pv 0)) (dE_c (μ := true) pe_int)) (dE_op o_sub (dE_var (μ := true) (pv 1)) (dE_c (μ := true) pe_int))) (dE_ix (dE_ix (dE_var (μ := true) (pv 0)) (dE_c (μ := true) pe_int)) (dE_var (μ := true) (pv 1))) (nomark _))))))))
    (dSs_one (dS_ret (ps_ret (dE_tup (dA_cons (dE_tup (dA_cons (dE_c (μ := true) pe_int) (dA_cons (dE_var (μ := true) (pv 1)) (dA_nil (μ := true))))) (dA_cons (dE_c (μ := true) pe_str) (dA_nil (μ := true))))))))
    dSs_nil))))
  (dSs_cons (dS_if (dT_not (dT_val (dE_cl C__law_row_of (hr.mono (by omega)) (by rfl) (dA_cons (dE_ix (dE_var (μ := true) (pv 0)) (dE_c (μ := true) pe_int)) (dA_cons (dE_c (μ := true) pe_int) (dA_cons (dE_c (μ := true) pe_int) (dA_nil (μ := true))))))))
    (dSs_one (dS_ret (ps_ret (dE_tup (dA_cons (dE_tup (dA_cons (dE_c (μ := true) pe_int) (dA_nil (μ := true)))) (dA_cons (dE_c (μ := true) pe_str) (dA_nil (μ := true))))))))
    dSs_nil)
  (dSs_cons (dS_for (K := K) (p := (.nm 1)) (ps_for PassesOwn.never rfl (dI_ran1 (by rfl) m_range (dA_cons (dE_callB c_len (by rfl) m_len (by decide +kernel) (dA_cons (dE_ix (dE_var (μ := true) (pv 0)) (dE_c (μ := true) pe_int)) (dA_nil (μ := true)))) (dA_nil (μ := true)))) (pg_name (i := 1) sc_law_world_word.nd rfl (.inl rfl))
    (dSs_cons (dS_asg (K := K) (p := .nm 2) (ps_set (i := 2) sc_law_world_word.nd rfl (.inl rfl) (dE_cl C__law_source_word (hr.mono (by omega)) (by rfl) (dA_cons (dE_ix (dE_var (μ := true) (pv 0)) (dE_c (μ := true) pe_int)) (dA_cons (dE_ix (dE_var (μ := true) (pv 0)) (dE_c (μ := true) pe_int)) (dA_cons (dE_ix (dE_ix (dE_var (μ := true) (pv 0)) (dE_c (μ := true) pe_int)) (dE_var (μ := true) (pv 1))) (dA_nil (μ := true))))))))
  (dSs_one (dS_if (dT_cmp o_isnot (dE_var (μ := true) (pv 2)) (dE_c (μ := true) pe_non) (nomark _))
    (dSs_one (dS_ret (ps_ret (dE_tup (dA_cons (dE_op o_add (dE_tup (dA_cons (dE_c (μ := true) pe_int) (dA_cons (dE_var (μ := true) (pv 1)) (dA_nil (μ := true))))) (dE_ix (dE_var (μ := true) (pv 2)) (dE_c (μ := true) pe_int))) (dA_cons (dE_ix (dE_var (μ := true) (pv 2)) (dE_c (μ := true) pe_int)) (dA_nil (μ := true))))))))
    dSs_nil)))))
  (dSs_cons (dS_if (dT_not (dT_val (dE_cl C__law_row_of (hr.mono (by omega)) (by rfl) (dA_cons (dE_ix (dE_var (μ := true) (pv 0)) (dE_c (μ := true) pe_int)) (dA_cons (dE_c (μ := true) pe_int) (dA_cons (dE_c (μ := true) pe_int) (dA_nil (μ := true))))))))
    (dSs_one (dS_ret (ps_ret (dE_tup (dA_cons (dE_tup (dA_cons (dE_c (μ := true) pe_int) (dA_nil (μ := true)))) (dA_cons (dE_c (μ := true) pe_str) (dA_nil (μ := true))))))))
    dSs_nil)
  (dSs_cons (dS_for (K := K) (p := (.nm 1)) (ps_for PassesOwn.never rfl (dI_ran1 (by rfl) m_range (dA_cons (dE_callB c_len (by rfl) m_len (by decide +kernel) (dA_cons (dE_ix (dE_var (μ := true) (pv 0)) (dE_c (μ := true) pe_int)) (dA_nil (μ := true)))) (dA_nil (μ := true)))) (pg_name (i := 1) sc_law_world_word.nd rfl (.inl rfl))
    (dSs_cons (dS_asg (K := K) (p := .nm 2) (ps_set (i := 2) sc_law_world_word.nd rfl (.inl rfl) (dE_cl C__law_way_word (hr.mono (by omega)) (by rfl) (dA_cons (dE_ix (dE_var (μ := true) (pv 0)) (dE_c (μ := true) pe_int)) (dA_cons (dE_ix (dE_var (μ := true) (pv 0)) (dE_c (μ := true) pe_int)) (dA_cons (dE_ix (dE_ix (dE_var (μ := true) (pv 0)) (dE_c (μ := true) pe_int)) (dE_var (μ := true) (pv 1))) (dA_nil (μ := true))))))))
  (dSs_one (dS_if (dT_cmp o_isnot (dE_var (μ := true) (pv 2)) (dE_c (μ := true) pe_non) (nomark _))
    (dSs_one (dS_ret (ps_ret (dE_tup (dA_cons (dE_op o_add (dE_tup (dA_cons (dE_c (μ := true) pe_int) (dA_cons (dE_var (μ := true) (pv 1)) (dA_nil (μ := true))))) (dE_ix (dE_var (μ := true) (pv 2)) (dE_c (μ := true) pe_int))) (dA_cons (dE_ix (dE_var (μ := true) (pv 2)) (dE_c (μ := true) pe_int)) (dA_nil (μ := true))))))))
    dSs_nil)))))
  (dSs_one (dS_ret (ps_ret (dE_c (μ := true) pe_non)))))))))))), fun ds d l e => ?_⟩
  match ds, e with
  | [x], e =>
    obtain ⟨gx, rfl⟩ := iteS e
    refine ⟨.rt (worldF x), ?_, rfl⟩
    refine (ev_guard (b := !isRow 4 4 x) rfl rfl).trans ?_
    cases h0 : isRow 4 4 x with
    | false =>
      have : worldF x = flt [] "world" := by
        unfold worldF
        split
        · cases h0
        · cases h0
        · rfl
      rw [this]
      rfl
    | true =>
      obtain ⟨a, b, c, e', rfl⟩ := isRow_four h0
      have gb := gq.tup gx b (by simp)
      have gc := gq.tup gx c (by simp)
      have ge := gq.tup gx e' (by simp)
      refine (ev_guard (b := !isFrom 1 6 a) rfl rfl).trans ?_
      cases h1 : isFrom 1 6 a with
      | false =>
        have : worldF (.tuple [a, b, c, e']) = flt [0] "round" := by
          unfold worldF
          split
          · rename_i e1; cases e1; rw [h1]; rfl
          · rename_i e1; cases e1; rw [h1]; rfl
          · rename_i e1; exact (e1 _ _ _ _ rfl).elim
        rw [this]
        rfl
      | true =>
        obtain ⟨n, rfl⟩ := isFrom_int h1
        have n1 : 1 ≤ n := by
          simp [isFrom] at h1
          omega
        refine (ev_guard (b := !isRow 1 4 b) rfl rfl).trans ?_
        cases h2 : isRow 1 4 b with
        | false =>
          have : worldF (.tuple [.int n, b, c, e']) = flt [1] "kinds" := by
            cases b <;> (simp only [worldF, h1, kindsF, h2]; rfl)
          rw [this]
          rfl
        | true =>
          obtain ⟨ks, rfl⟩ := isRow_tup h2
          have kl : ks.length ≤ 4 := by
            simp [isRow] at h2
            omega
          have ek : kindsF (.tuple ks) = orN (firstG (gK ks) 0 ks) := by simp only [kindsF, h2]; rfl
          have ew : worldF (.tuple [.int n, .tuple ks, c, e']) = orF (kindsF (.tuple ks)) (orF (srcsF n ks c) (waysF n ks e')) := by simp only [worldF, h1]; rfl
          have fin : outG (.rt (orF (srcsF n ks c) (waysF n ks e'))) (firstG (gK ks) 0 ks) = .rt (worldF (.tuple [.int n, .tuple ks, c, e'])) := by
            rw [ew, ek]
            cases hg : firstG (gK ks) 0 ks with
            | none => rfl
            | some d =>
              have : ∀ (ys : List D) (k : Nat) d, firstG (gK ks) k ys = some d → d ≠ .none := by
                intro ys
                induction ys with
                | nil => intro k d h; cases h
                | cons y ys ih =>
                  intro k d h
                  cases z : gK ks k y with
                  | none => rw [firstG_no z] at h; exact ih _ _ h
                  | some d' =>
                    rw [firstG_yes z] at h
                    cases h
                    unfold gK at z
                    split at z
                    · cases z; intro q; cases q
                    · cases z
              have dn := this _ _ _ hg
              show Out.rt d = .rt (orF d _)
              unfold orF
              split
              · exact (dn rfl).elim
              · rfl
          refine Eq.trans ?_ (congrArg some fin)
          refine ev_rangeG (fun ρ => ∃ y, ρ = [some (.dat (.tuple [.int n, .tuple ks, c, e'])), y, none]) _ (ev_itG (ds := [.int ks.length]) rfl ((ran1_ok (j := ks.length) (by omega) (by omega)).trans (by rw [Int.toNat_natCast]))) ⟨_, rfl⟩ (fun k x ρ ex gone i => ?_) (fun ρ i hnone => ?_)
          · obtain ⟨y, rfl⟩ := i
            refine ⟨[some (.dat (.tuple [.int n, .tuple ks, c, e'])), some (.dat (.int k)), none], rfl, ?_⟩
            have ox := gq.tup gb x (List.mem_of_getElem? ex)
            have tst : oOr (oNot (oB (eCall (gN 1 sNameX) (aCons (e2 ixD (e2 ixD (eVar 0) (eC (.int 1))) (eVar 1)) aNil)))) (oAnd (oB (e2 gtD (eVar 1) (eC (.int 0)))) (oB (e2 geD (e2 ixD (e2 ixD (eVar 0) (eC (.int 1))) (e2 subD (eVar 1) (eC (.int 1)))) (e2 ixD (e2 ixD (eVar 0) (eC (.int 1))) (eVar 1))))) [some (.dat (.tuple [.int n, .tuple ks, c, e'])), some (.dat (.int k)), none] = some (badK ks k x) := by
              have ix1 : e2 ixD (e2 ixD (eVar 0) (eC (.int 1))) (eVar 1) [some (.dat (.tuple [.int n, .tuple ks, c, e'])), some (.dat (.int k)), none] = some x := ev_e2 (a := .tuple ks) (b := .int k) rfl rfl (atI_nat ex)
              have en : sNameX [x] = some (.bool (isName x)) := if_pos ox
              refine (ev_oOr (b := !isName x) (ev_not (ev_oB (ev_call (ev_cons ix1 rfl) rfl en)))).trans ?_
              unfold badK
              cases hx : isName x with
              | false => rfl
              | true =>
                refine (ev_oAnd (b := decide ((k : Int) > 0)) rfl).trans ?_
                by_cases hk : 0 < k
                · have hk' : decide ((k : Int) > 0) = true := decide_eq_true (by omega)
                  rw [hk']
                  have hk1 : k - 1 < ks.length := by
                    have := (List.getElem?_eq_some_iff.mp ex).1
                    omega
                  obtain ⟨y, hy⟩ : ∃ y, ks[k - 1]? = some y := ⟨_, List.getElem?_eq_getElem hk1⟩
                  have gy := gone (k - 1) y (by omega) hy
                  unfold gK at gy
                  have by1 : badK ks (k - 1) y = false := by
                    cases z : badK ks (k - 1) y with
                    | false => rfl
                    | true => rw [z] at gy; cases gy
                  have ny : isName y = true := by
                    unfold badK at by1
                    cases z : isName y with
                    | true => rfl
                    | false => rw [z] at by1; cases by1
                  obtain ⟨zx, rfl⟩ := isName_str hx
                  obtain ⟨zy, rfl⟩ := isName_str ny
                  have ai : ixD (.tuple ks) (.int ((k : Int) - 1)) = some (.str zy) := by
                    rw [show ((k : Int) - 1) = ((k - 1 : Nat) : Int) by omega]
                    exact atI_nat hy
                  refine (ev_oB (ev_e2 (ev_e2 (a := .tuple ks) (b := .int ((k : Int) - 1)) rfl rfl ai) ix1 rfl)).trans ?_
                  rw [hy]
                  simp [ltS, hk]
                · have hk' : decide ((k : Int) > 0) = false := decide_eq_false (by omega)
                  rw [hk']
                  simp [hk]
            unfold gK
            cases hb : badK ks k x with
            | true => exact .inr ⟨_, if_pos rfl, (ev_ifR (tst.trans (by rw [hb]))).trans rfl⟩
            | false => exact .inl ⟨if_neg (by decide), _, ⟨_, rfl⟩, (ev_ifR (tst.trans (by rw [hb]))).trans rfl⟩
          · obtain ⟨y, rfl⟩ := i
            have nk := gK_nms hnone
            have ok1 := nms_okK nk
            refine (ev_guard (b := !isRow 0 6 c) rfl rfl).trans ?_
            cases h3 : isRow 0 6 c with
            | false =>
              have : srcsF n ks c = flt [2] "sources" := by
                unfold srcsF
                split
                · rw [h3]; rfl
                · rfl
              rw [this]
              rfl
            | true =>
              obtain ⟨xs, rfl⟩ := isRow_tup h3
              have xl : xs.length ≤ 6 := by
                simp [isRow] at h3
                omega
              have ep : srcsF n ks (.tuple xs) = firstF [.int 2] (srcF n ks) 0 xs := by simp only [srcsF, h3]; rfl
              rw [ep, ← gF_out]
              refine ev_rangeG (fun ρ => ∃ y z, ρ = [some (.dat (.tuple [.int n, .tuple ks, .tuple xs, e'])), y, z]) _ (ev_itG (ds := [.int xs.length]) rfl ((ran1_ok (j := xs.length) (by omega) (by omega)).trans (by rw [Int.toNat_natCast]))) ⟨_, _, rfl⟩ (fun k x ρ ex gone i => ?_) (fun ρ i _ => ?_)
              · obtain ⟨y, z, rfl⟩ := i
                refine ⟨[some (.dat (.tuple [.int n, .tuple ks, .tuple xs, e'])), some (.dat (.int k)), z], rfl, ?_⟩
                have gxx := gq.tup gc x (List.mem_of_getElem? ex)
                have ef : sSrcX [.int n, .tuple ks, x] = some (srcF n ks x) := if_pos (by rw [nk, ok1, gxx]; rfl)
                have arg : (aCons (e2 ixD (eVar 0) (eC (.int 0))) (aCons (e2 ixD (eVar 0) (eC (.int 1))) (aCons (e2 ixD (e2 ixD (eVar 0) (eC (.int 2))) (eVar 1)) aNil))) [some (.dat (.tuple [.int n, .tuple ks, .tuple xs, e'])), some (.dat (.int k)), z] = some [.int n, .tuple ks, x] := ev_cons rfl (ev_cons rfl (ev_cons (ev_e2 (a := .tuple xs) (b := .int k) rfl rfl (atI_nat ex)) rfl))
                by_cases hn : srcF n ks x = .none
                · exact .inl ⟨gF_none hn, _, ⟨_, _, rfl⟩, (ev_asg (d := .none) (ρ' := [some (.dat (.tuple [.int n, .tuple ks, .tuple xs, e'])), some (.dat (.int k)), some (.dat .none)]) (ev_call arg rfl (ef.trans (by rw [hn]))) rfl).trans rfl⟩
                · refine .inr ⟨_, gF_some hn, ?_⟩
                  rcases srcF_N n ks x with e | ⟨i, w, e, l⟩
                  · exact (hn e).elim
                  · refine (ev_asg (d := .tuple [.tuple i, w]) (ρ' := [some (.dat (.tuple [.int n, .tuple ks, .tuple xs, e'])), some (.dat (.int k)), some (.dat (.tuple [.tuple i, w]))]) (ev_call arg rfl (ef.trans (by rw [e]))) rfl).trans ?_
                    refine (ev_ifR (b := true) rfl).trans (ev_ret ?_)
                    show ((addD (.tuple [.int 2, .int k]) (.tuple i)).bind _).bind _ = _
                    rw [add_tup (a := [.int 2, .int k]) (b := i) (show 2 + i.length ≤ sizeLine from sz (by omega)), e]
                    rfl
              · obtain ⟨y, z, rfl⟩ := i
                refine (ev_guard (b := !isRow 0 8 e') rfl rfl).trans ?_
                cases h4 : isRow 0 8 e' with
                | false =>
                  have : waysF n ks e' = flt [3] "ways" := by
                    unfold waysF
                    split
                    · rw [h4]; rfl
                    · rfl
                  rw [this]
                  rfl
                | true =>
                  obtain ⟨us, rfl⟩ := isRow_tup h4
                  have ul : us.length ≤ 8 := by
                    simp [isRow] at h4
                    omega
                  have ep : waysF n ks (.tuple us) = firstF [.int 3] (wayF n ks) 0 us := by simp only [waysF, h4]; rfl
                  have e9 : firstF [.int 3] (wayF n ks) 0 us = orF (firstF [.int 3] (wayF n ks) 0 us) .none := by
                    unfold orF
                    split
                    · rename_i q; exact q
                    · rfl
                  rw [ep, e9, ← gF_out]
                  refine ev_rangeG (fun ρ => ∃ y z, ρ = [some (.dat (.tuple [.int n, .tuple ks, .tuple xs, .tuple us])), y, z]) _ (ev_itG (ds := [.int us.length]) rfl ((ran1_ok (j := us.length) (by omega) (by omega)).trans (by rw [Int.toNat_natCast]))) ⟨_, _, rfl⟩ (fun k x ρ ex gone i => ?_) (fun ρ i _ => by obtain ⟨y, z, rfl⟩ := i; rfl)
                  obtain ⟨y, z, rfl⟩ := i
                  refine ⟨[some (.dat (.tuple [.int n, .tuple ks, .tuple xs, .tuple us])), some (.dat (.int k)), z], rfl, ?_⟩
                  have gxx := gq.tup ge x (List.mem_of_getElem? ex)
                  have ef : sWayX [.int n, .tuple ks, x] = some (wayF n ks x) := if_pos ⟨by rw [nk, ok1, gxx]; rfl, n1⟩
                  have arg : (aCons (e2 ixD (eVar 0) (eC (.int 0))) (aCons (e2 ixD (eVar 0) (eC (.int 1))) (aCons (e2 ixD (e2 ixD (eVar 0) (eC (.int 3))) (eVar 1)) aNil))) [some (.dat (.tuple [.int n, .tuple ks, .tuple xs, .tuple us])), some (.dat (.int k)), z] = some [.int n, .tuple ks, x] := ev_cons rfl (ev_cons rfl (ev_cons (ev_e2 (a := .tuple us) (b := .int k) rfl rfl (atI_nat ex)) rfl))
                  by_cases hn : wayF n ks x = .none
                  · exact .inl ⟨gF_none hn, _, ⟨_, _, rfl⟩, (ev_asg (d := .none) (ρ' := [some (.dat (.tuple [.int n, .tuple ks, .tuple xs, .tuple us])), some (.dat (.int k)), some (.dat .none)]) (ev_call arg rfl (ef.trans (by rw [hn]))) rfl).trans rfl⟩
                  · refine .inr ⟨_, gF_some hn, ?_⟩
                    rcases wayF_N n ks x with e | ⟨i, w, e, l⟩
                    · exact (hn e).elim
                    · refine (ev_asg (d := .tuple [.tuple i, w]) (ρ' := [some (.dat (.tuple [.int n, .tuple ks, .tuple xs, .tuple us])), some (.dat (.int k)), some (.dat (.tuple [.tuple i, w]))]) (ev_call arg rfl (ef.trans (by rw [e]))) rfl).trans ?_
                      refine (ev_ifR (b := true) rfl).trans (ev_ret ?_)
                      show ((addD (.tuple [.int 3, .int k]) (.tuple i)).bind _).bind _ = _
                      rw [add_tup (a := [.int 3, .int k]) (b := i) (show 2 + i.length ≤ sizeLine from sz (by omega)), e]
                      rfl
end
end Dl
namespace Dl
open PySem PySem.Spec PyProof.Rows L2 Rt
noncomputable def sAl (dp : D → Prop) : List D → Option D := fun ds => match ds with
  | [a, b] => @ite _ (a = b ∧ dp a) (Classical.propDecidable _) (some (.bool true)) none
  | _ => none
/-- data of so many tuples within one another -/
def dpA : Nat → D → Prop
  | 0, _ => False
  | n + 1, .tuple ds => ds.length ≤ 1000 ∧ ∀ d ∈ ds, dpA n d
  | n + 1, .list _ => False
  | n + 1, .dict _ => False
  | n + 1, d => okD d = true
theorem sAl_ok {dp : D → Prop} {a : D} (h : dp a) : sAl dp [a, a] = some (.bool true) := by
  exact @if_pos _ (Classical.propDecidable _) ⟨rfl, h⟩ _ _ _
theorem eqv_refl {d : D} (h : okD d = true) : PyData.eqv d d = true := SeqAt.eqv_refl d (Bool.and_eq_true_iff.mp (okD.parts h).2).1
theorem isiV {T : String} {i : Nat} {ρ : Rho} {d b : D} (h : eVar i ρ = some d) (ht : isTy T d = some b) : e1 (isTy T) (eVar i) ρ = some b := by
  unfold e1
  rw [h]
  exact ht
theorem ev_oOrF {f g : Rho → Option Bool} {ρ : Rho} {b : Bool} (h1 : f ρ = some false) (h2 : g ρ = some b) : oOr f g ρ = some b := (ev_oOr h1).trans h2
theorem ev_oOrT {f g : Rho → Option Bool} {ρ : Rho} (h1 : f ρ = some true) : oOr f g ρ = some true := ev_oOr h1
theorem zp_self (xs : List D) : zpGo xs xs = (xs.map fun x => (x, x)).map fun x => .tuple [x.1, x.2] := by
  rw [zp_zip]
  congr 1
  induction xs with
  | nil => rfl
  | cons x xs ih => rw [List.zip_cons_cons, ih]; rfl
section
variable {P : Program} {w : World} {K : PySem.W.Frag} {mg : Str → Option Value} {base : Heap}
theorem ok_never {k n : Nat} {f : Addr} {fd : FuncData} {ps : List Str} {g : List D → Option D} (hg : ∀ ds, g ds = none) : FnOk P w K mg base CX0 k f fd ps (spD n g) :=
  ⟨fun vs H Q E h => by
    obtain ⟨M, ds, d, _, _, _, e, _⟩ := h
    rw [hg] at e
    exact (nomatch e), fun A outer s H args us vs Q E _ _ _ _ h => by
    obtain ⟨M, ds, d, _, _, _, e, _⟩ := h
    rw [hg] at e
    exact (nomatch e)⟩
theorem ok_alikeS {f : Addr} {fd : FuncData} {k n : Nat} (F : Fun K "_law_alike" "_law_alike" s_law_alike f fd) (m_isinstance : mg "isinstance" = none) (m_tuple : mg "tuple" = none) (m_bool : mg "bool" = none) (m_int : mg "int" = none) (m_str : mg "str" = none) (m_len : mg "len" = none) (m_all : mg "all" = none) (m_zip : mg "zip" = none)
    (C__law_alike : Cl P w K mg base k "_law_alike" ["_law_one_here", "_law_other"] (spD 2 (sAl (dpA n)))) : FnOk P w K mg base CX0 (k + 1) f fd ["_law_one_here", "_law_other"] (spD 2 (sAl (dpA (n + 1)))) := by
  refine okFn F sc_law_alike rfl fun cdv A outer s H E hr => ⟨_, (dSs_cons (dS_if (PW.pt (dW_and (dT_val (dE_isi (dE_var (μ := true) (pv 0)) (pe_bltn (v := .ty "tuple") (by rfl) m_tuple (by decide +kernel) rfl) (by rfl) m_isinstance (by decide +kernel))) (dW_and1 (dT_val (dE_isi (dE_var (μ := true) (pv 1)) (pe_bltn (v := .ty "tuple") (by rfl) m_tuple (by decide +kernel) rfl) (by rfl) m_isinstance (by decide +kernel))))))
    (dSs_one (dS_ret (ps_ret (dE_and (dE_cmp (o_eq hr.units) (dE_callB c_len (by rfl) m_len (by decide +kernel) (dA_cons (dE_var (μ := true) (pv 0)) (dA_nil (μ := true)))) (dE_callB c_len (by rfl) m_len (by decide +kernel) (dA_cons (dE_var (μ := true) (pv 1)) (dA_nil (μ := true)))) (nomark _)) (dE_one (dE_callB (c_all rfl) (by rfl) m_all (by decide +kernel) (dA_cons (dE_lc (K := K) (p := (.tp (.cons (.nm 2) (.cons (.nm 3) .nil)))) (pe_lc (own := [("_law_a", 2), ("_law_b", 3)]) (g := gP K (.tp (.cons (.nm 2) (.cons (.nm 3) .nil)))) rfl sc_law_alike.nd (dI_zip (by rfl) m_zip (dA_cons (dE_var (μ := true) (pv 0)) (dA_cons (dE_var (μ := true) (pv 1)) (dA_nil (μ := true))))) (blkOk_by (own := [("_law_a", 2), ("_law_b", 3)]) (N := ["_law_one_here", "_law_other", "_law_a", "_law_b"]) (sc := defScope s_law_alike) (by decide +kernel)) (fun _ _ _ _ _ => (pg_tup (by rfl) (pgs_cons (pg_name (i := 2) sc_law_alike.nd rfl (.inl rfl)) (pgs_cons (pg_name (i := 3) sc_law_alike.nd rfl (.inl rfl)) pgs_nil)))) (fun _ _ _ _ _ => dTs_nil) (fun _ _ _ _ _ => (dE_cl C__law_alike (hr.mono (by omega)) (by rfl) (dA_cons (dE_var (μ := true) (pv 2)) (dA_cons (dE_var (μ := true) (pv 3)) (dA_nil (μ := true)))))))) (dA_nil (μ := true)))))))))
    dSs_nil)
  (dSs_cons (dS_if (PW.pt (dW_or (dT_val (dE_isi (dE_var (μ := true) (pv 0)) (pe_bltn (v := .ty "bool") (by rfl) m_bool (by decide +kernel) rfl) (by rfl) m_isinstance (by decide +kernel))) (dW_or1 (dT_val (dE_isi (dE_var (μ := true) (pv 1)) (pe_bltn (v := .ty "bool") (by rfl) m_bool (by decide +kernel) rfl) (by rfl) m_isinstance (by decide +kernel))))))
    (dSs_one (dS_ret (ps_ret (dE_and (dE_isi (dE_var (μ := true) (pv 0)) (pe_bltn (v := .ty "bool") (by rfl) m_bool (by decide +kernel) rfl) (by rfl) m_isinstance (by decide +kernel)) (dE_and (dE_isi (dE_var (μ := true) (pv 1)) (pe_bltn (v := .ty "bool") (by rfl) m_bool (by decide +kernel) rfl) (by rfl) m_isinstance (by decide +kernel)) (dE_one (dE_cmp (o_eq hr.units) (dE_var (μ := true) (pv 0)) (dE_var (μ := true) (pv 1)) (nomark _))))))))
    dSs_nil)
  (dSs_cons (dS_if (dT_cmp (o_ne hr.units) (dE_isi (dE_var (μ := true) (pv 0)) (pe_bltn (v := .ty "int") (by rfl) m_int (by decide +kernel) rfl) (by rfl) m_isinstance (by decide +kernel)) (dE_isi (dE_var (μ := true) (pv 1)) (pe_bltn (v := .ty "int") (by rfl) m_int (by decide +kernel) rfl) (by rfl) m_isinstance (by decide +kernel)) (nomark _))
    (dSs_one (dS_ret (ps_ret (dE_c (μ := true) pe_bl))))
    dSs_nil)
  (dSs_one (dS_ret (ps_ret (dE_and (dE_cmp (o_eq hr.units) (dE_isi (dE_var (μ := true) (pv 0)) (pe_bltn (v := .ty "str") (by rfl) m_str (by decide +kernel) rfl) (by rfl) m_isinstance (by decide +kernel)) (dE_isi (dE_var (μ := true) (pv 1)) (pe_bltn (v := .ty "str") (by rfl) m_str (by decide +kernel) rfl) (by rfl) m_isinstance (by decide +kernel)) (nomark _)) (dE_one (dE_cmp (o_eq hr.units) (dE_var (μ := true) (pv 0)) (dE_var (μ := true) (pv 1)) (nomark _)))))))))), fun ds d l e => ?_⟩
  match ds, e with
  | [a, b], e =>
    have e : @ite _ (a = b ∧ dpA (n + 1) a) (Classical.propDecidable _) (some (PyData.bool true)) none = some d := e
    by_cases hc : a = b ∧ dpA (n + 1) a
    · rw [if_pos hc] at e
      cases e
      obtain ⟨rfl, dp⟩ := hc
      refine ⟨.rt (.bool true), ?_, rfl⟩
      refine (ev_if (b := isTup a) ((ev_oAnd (ev_oB (isi_tup a))).trans (by cases h : isTup a <;> first | rfl | exact (ev_oB (isi_tup a)).trans (by rw [h])))).trans ?_
      cases h : isTup a with
      | true =>
        cases a <;> try (cases h; done)
        rename_i xs
        obtain ⟨xl, dp⟩ : xs.length ≤ 1000 ∧ ∀ d ∈ xs, dpA n d := dp
        refine ev_retS (ev_and (b := true) ((ev_e2 (a := .int xs.length) (b := .int xs.length) rfl rfl (eq_ok rfl rfl)).trans (by show some (PyData.bool ((xs.length : Int) == xs.length)) = _; rw [beq_self_eq_true])) (fun _ => ?_) (fun z => by cases z))
        refine (ev_all (xs := xs.map fun x => (x, x)) (t := fun _ => true) (items := zpGo xs xs) rfl ?_).trans (by simp)
        rw [zp_self]
        exact ev_lcP (i := 2) (j := 3) (t := fun _ _ => .bool true) (by show 2 < 4; decide) (by show 3 < 4; decide) _ fun x hx => by
          obtain ⟨y, hy, rfl⟩ := List.mem_map.mp hx
          exact ev_call rfl rfl (sAl_ok (dp y hy))
      | false =>
        refine (show _ = _ from ev_nil).trans ?_
        have ok : okD a = true := by
          cases a <;> first | exact dp | (cases h; done) | exact (dp : False).elim
        have er := eqv_refl ok
        have eqa : ∀ ρ, eVar 0 ρ = some a → eVar 1 ρ = some a → e2 eqD (eVar 0) (eVar 1) ρ = some (.bool true) := fun ρ h1 h2 => ev_e2 h1 h2 ((eq_ok ok ok).trans (by rw [er]))
        cases a with
        | bool b =>
          refine (ev_if (b := true) (ev_oOrT (ev_oB (isiV rfl (isi_bool _))))).trans ?_
          exact ev_retS (ev_and (b := true) (isiV rfl (isi_bool _)) (fun _ => ev_and (b := true) (isiV rfl (isi_bool _)) (fun _ => eqa _ rfl rfl) (fun z => by cases z)) (fun z => by cases z))
        | tuple xs => cases h
        | list xs => exact (dp : False).elim
        | dict xs => exact (dp : False).elim
        | none =>
          refine (ev_if (b := false) (ev_oOrF (ev_oB (isiV rfl (isi_bool _))) (ev_oB (isiV rfl (isi_bool _))))).trans ?_
          refine (show _ = _ from ev_nil).trans ?_
          refine (ev_if (b := false) (ev_oB (ev_e2 (a := .bool false) (b := .bool false) (isiV rfl (isi_int _)) (isiV rfl (isi_int _)) rfl))).trans ?_
          refine (show _ = _ from ev_nil).trans ?_
          exact ev_ret (ev_and (b := true) (ev_e2 (a := .bool false) (b := .bool false) (isiV rfl (isi_str _)) (isiV rfl (isi_str _)) rfl) (fun _ => eqa _ rfl rfl) (fun z => by cases z))
        | int i =>
          refine (ev_if (b := false) (ev_oOrF (ev_oB (isiV rfl (isi_bool _))) (ev_oB (isiV rfl (isi_bool _))))).trans ?_
          refine (show _ = _ from ev_nil).trans ?_
          refine (ev_if (b := false) (ev_oB (ev_e2 (a := .bool true) (b := .bool true) (isiV rfl (isi_int _)) (isiV rfl (isi_int _)) rfl))).trans ?_
          refine (show _ = _ from ev_nil).trans ?_
          exact ev_ret (ev_and (b := true) (ev_e2 (a := .bool false) (b := .bool false) (isiV rfl (isi_str _)) (isiV rfl (isi_str _)) rfl) (fun _ => eqa _ rfl rfl) (fun z => by cases z))
        | str i =>
          refine (ev_if (b := false) (ev_oOrF (ev_oB (isiV rfl (isi_bool _))) (ev_oB (isiV rfl (isi_bool _))))).trans ?_
          refine (show _ = _ from ev_nil).trans ?_
          refine (ev_if (b := false) (ev_oB (ev_e2 (a := .bool false) (b := .bool false) (isiV rfl (isi_int _)) (isiV rfl (isi_int _)) rfl))).trans ?_
          refine (show _ = _ from ev_nil).trans ?_
          exact ev_ret (ev_and (b := true) (ev_e2 (a := .bool true) (b := .bool true) (isiV rfl (isi_str _)) (isiV rfl (isi_str _)) rfl) (fun _ => eqa _ rfl rfl) (fun z => by cases z))
    · rw [if_neg hc] at e
      cases e
end
end Dl
namespace Dl
open PySem PySem.Spec PyProof.Rows L2 Rt
/-- some thing of such a sort, by at most so many draws -/
def gAny (c : Nat) (pre : List D → Prop) (post : List D → D → Prop) : GF := ⟨fun ds n Q => pre ds ∧ c ≤ n ∧ ∀ d n', post ds d → n ≤ n' + c → Q d n', fun h ⟨a, b, q⟩ => ⟨a, b, fun d n' p l => h _ _ (q d n' p l)⟩⟩
def gNext : GF := gAny 1 (fun ds => ∃ b : Int, ds = [.int b] ∧ 0 < b ∧ b < 2 ^ 60) (fun ds d => ∃ b v : Int, ds = [.int b] ∧ d = .int v ∧ 0 ≤ v ∧ v < b)
def gOne : GF := gAny 1 (fun ds => ∃ w items, ds = [w] ∧ seqD w = some items ∧ 0 < items.length ∧ items.length ≤ 1000) (fun ds d => ∃ w items, ds = [w] ∧ seqD w = some items ∧ d ∈ items)
theorem kp_own {g : Gd} {H H' : Hp} (k : Kp g H H') : KpM g.own H H' := fun p o n e => k p o (fun z => n (.inl z)) (fun z => n (.inr (.inr z))) e
section
variable {P : Program} {w : World} {K : PySem.W.Frag} {mg : Str → Option Value} {base : Heap}
theorem ok_nextN {f : Addr} {fd : FuncData} {k : Nat} {ps : List Str} (F : FnOk P w K mg base CX0 k f fd ps spNext) : FnOk P w K mg base CX0 k f fd ps (spN 1 gNext) := F.wk fun vs H Q E h => by
  obtain ⟨g, M, ws, ds, n, rfl, pl, dm, iv, r, l, ⟨b, rfl, b0, b1⟩, hn, q⟩ := h
  match ws, r with
  | [_], .cons (.int _) .nil =>
    exact ⟨g, n, b, rfl, iv, hn, b0, b1, fun v H' v0 v1 F' K' => q (.int v) (n - 1) ⟨b, v, rfl, rfl, v0, v1⟩ (by omega) (.int v) H' (kp_own K') F' (.int v)⟩
theorem ok_oneN {f : Addr} {fd : FuncData} (F : Fun K "_law_one" "_law_one" s_law_one f fd) (m_len : mg "len" = none) (C__law_next : Cl P w K mg base 1 "_law_next" ["_law_drawn", "_law_below"] (spN 1 gNext)) : FnOk P w K mg base CX0 2 f fd ["_law_drawn", "_law_wares"] (spN 1 gOne) := by
  refine okFnN F sc_law_one rfl fun cdv A outer s H E hr => ⟨_, (nSs_one (nS_ret (ps_ret (nE_ix (nE_pure (dE_var (μ := true) (pv 1))) (nE_draw C__law_next (hr.mono (by omega)) (by rfl) (pv 0) (nA_cons (nE_pure (dE_callB c_len (by rfl) m_len (by decide +kernel) (dA_cons (dE_var (μ := true) (pv 1)) (dA_nil (μ := true))))) nA_nil)))))), fun ds b Q l h => ?_⟩
  obtain ⟨⟨w, items, rfl, es, l0, l1⟩, hb, q⟩ := h
  have el : lenD [w] = some (.int items.length) := by
    cases w <;> cases es <;> rfl
  refine ⟨w, rfl, rfl, .int items.length, el, [.int items.length], rfl, rfl, ⟨_, rfl, by omega, by omega⟩, hb, fun d n' p hn => ?_⟩
  obtain ⟨b', v, e1, rfl, v0, v1⟩ := p
  cases e1
  obtain ⟨x, hx, xm, _⟩ := atI_in (xs := items) v0 v1
  refine ⟨x, ?_, q x n' ⟨w, items, rfl, es, xm⟩ hn⟩
  cases w <;> cases es <;> exact hx
end
end Dl
namespace Dl
open PySem PySem.Spec PyProof.Rows L2 Rt
theorem wNext {i : Nat} {e : EF} {ρ : Rho} {b : Nat} {Q : D → Nat → Prop} {m : Int} (hp : ρ[i]? = some (some .pool)) (he : e (shutR true ρ) = some (.int m)) (h0 : 0 < m) (h1 : m < 2 ^ 60) (hb : 1 ≤ b) (q : ∀ v n', 0 ≤ v → v < m → b ≤ n' + 1 → Q (.int v) n') : (wCall i 1 gNext (wCons (wP e) wNil)).w ρ b Q :=
  ⟨hp, .int m, he, _, rfl, rfl, ⟨m, rfl, h0, h1⟩, hb, fun d n' ⟨b', v, e1, e2, v0, v1⟩ hn => by
    cases e1
    subst e2
    exact q v n' v0 v1 hn⟩
theorem wOne {i : Nat} {e : EF} {ρ : Rho} {b : Nat} {Q : D → Nat → Prop} {x : D} {items : List D} (hp : ρ[i]? = some (some .pool)) (he : e (shutR true ρ) = some x) (hs : seqD x = some items) (h0 : 0 < items.length) (h1 : items.length ≤ 1000) (hb : 1 ≤ b) (q : ∀ d n', d ∈ items → b ≤ n' + 1 → Q d n') : (wCall i 1 gOne (wCons (wP e) wNil)).w ρ b Q :=
  ⟨hp, x, he, _, rfl, rfl, ⟨x, items, rfl, hs, h0, h1⟩, hb, fun d n' ⟨w', it', e1, e2, m⟩ hn => by
    cases e1
    rw [hs] at e2
    cases e2
    exact q d n' m hn⟩
/-- kinds as they are drawn -/
def Kds (ks : List D) : Prop := 1 ≤ ks.length ∧ ks.length ≤ 4 ∧ ∀ k ∈ ks, isName k = true
def SrcP (n : Int) (ks : List D) (d : D) : Prop := ∃ k a pl s m, d = .tuple [k, .int a, .int pl, .int s, .int m] ∧ k ∈ ks ∧ 0 ≤ a ∧ a ≤ 20 ∧ 0 ≤ pl ∧ pl < n ∧ 0 ≤ s ∧ s ≤ 1000000 ∧ 1 ≤ m ∧ m ≤ 9
def PrtP (ks : List D) (d : D) : Prop := ∃ k l h, d = .tuple [k, .int l, .int h] ∧ k ∈ ks ∧ 0 ≤ l ∧ l ≤ h ∧ h ≤ 20
def gSource : GF := gAny 9 (fun ds => ∃ n ks old, ds = [.int n, .tuple ks, .int old] ∧ Kds ks ∧ 1 ≤ n ∧ n ≤ 6 ∧ 0 ≤ old ∧ old ≤ 20) (fun ds d => ∃ n ks old, ds = [.int n, .tuple ks, .int old] ∧ SrcP n ks d)
def gPart : GF := gAny 6 (fun ds => ∃ ks old, ds = [.tuple ks, .int old] ∧ Kds ks ∧ 0 ≤ old ∧ old ≤ 20) (fun ds d => ∃ ks old, ds = [.tuple ks, .int old] ∧ PrtP ks d)
theorem lst4 {α : Type} {a b c d : α} {i : Int} (h0 : 0 ≤ i) (h1 : i < 4) : ∃ x, L2.atI [a, b, c, d] i = some x ∧ (x = a ∨ x = b ∨ x = c ∨ x = d) := by
  obtain ⟨x, e, m, _⟩ := atI_in (xs := [a, b, c, d]) h0 h1
  exact ⟨x, e, by simpa using m⟩
theorem lst3 {α : Type} {a b c : α} {i : Int} (h0 : 0 ≤ i) (h1 : i < 3) : ∃ x, L2.atI [a, b, c] i = some x ∧ (x = a ∨ x = b ∨ x = c) := by
  obtain ⟨x, e, m, _⟩ := atI_in (xs := [a, b, c]) h0 h1
  exact ⟨x, e, by simpa using m⟩
section
variable {P : Program} {w : World} {K : PySem.W.Frag} {mg : Str → Option Value} {base : Heap}
theorem ok_source {f : Addr} {fd : FuncData} (F : Fun K "_law_source" "_law_source" s_law_source f fd) (C__law_next : Cl P w K mg base 1 "_law_next" ["_law_drawn", "_law_below"] (spN 1 gNext)) (C__law_one : Cl P w K mg base 2 "_law_one" ["_law_drawn", "_law_wares"] (spN 1 gOne)) : FnOk P w K mg base CX0 3 f fd ["_law_drawn", "_law_size", "_law_kinds_here", "_law_old"] (spN 3 gSource) := by
  refine okFnN F sc_law_source rfl fun cdv A outer s H E hr => ⟨_, (nSs_cons (nS_asg (K := K) (p := .nm 4) (ps_set (i := 4) sc_law_source.nd rfl (.inl rfl) (nE_ix (nE_lst (nA_cons (nE_pure (dE_c (μ := true) pe_int)) (nA_cons (nE_draw C__law_next (hr.mono (by omega)) (by rfl) (pv 0) (nA_cons (nE_pure (dE_c (μ := true) pe_int)) nA_nil)) (nA_cons (nE_draw C__law_next (hr.mono (by omega)) (by rfl) (pv 0) (nA_cons (nE_pure (dE_c (μ := true) pe_int)) nA_nil)) (nA_cons (nE_op o_sub (nE_pure (dE_op o_pow (dE_c (μ := true) pe_int) (dE_c (μ := true) pe_int))) (nE_draw C__law_next (hr.mono (by omega)) (by rfl) (pv 0) (nA_cons (nE_pure (dE_c (μ := true) pe_int)) nA_nil))) nA_nil))))) (nE_draw C__law_next (hr.mono (by omega)) (by rfl) (pv 0) (nA_cons (nE_pure (dE_c (μ := true) pe_int)) nA_nil)))))
  (nSs_cons (nS_asg (K := K) (p := .nm 5) (ps_set (i := 5) sc_law_source.nd rfl (.inl rfl) (nE_op o_mulX (nE_draw C__law_next (hr.mono (by omega)) (by rfl) (pv 0) (nA_cons (nE_pure (dE_op o_add (dE_var (μ := true) (pv 3)) (dE_c (μ := true) pe_int))) nA_nil)) (nE_draw C__law_next (hr.mono (by omega)) (by rfl) (pv 0) (nA_cons (nE_pure (dE_c (μ := true) pe_int)) nA_nil)))))
  (nSs_cons (nS_par (ps_par (i := 6) (j := 7) (by rfl) sc_law_source.nd rfl rfl (by decide) rfl rfl (nA_cons (nE_draw C__law_one (hr.mono (by omega)) (by rfl) (pv 0) (nA_cons (nE_pure (dE_var (μ := true) (pv 2))) nA_nil)) (nA_cons (nE_draw C__law_next (hr.mono (by omega)) (by rfl) (pv 0) (nA_cons (nE_pure (dE_var (μ := true) (pv 1))) nA_nil)) nA_nil)) (by rfl)))
  (nSs_one (nS_ret (ps_ret (nE_tup (nA_cons (nE_pure (dE_var (μ := true) (pv 6))) (nA_cons (nE_pure (dE_var (μ := true) (pv 5))) (nA_cons (nE_pure (dE_var (μ := true) (pv 7))) (nA_cons (nE_pure (dE_var (μ := true) (pv 4))) (nA_cons (nE_op o_add (nE_pure (dE_c (μ := true) pe_int)) (nE_draw C__law_next (hr.mono (by omega)) (by rfl) (pv 0) (nA_cons (nE_pure (dE_c (μ := true) pe_int)) nA_nil))) nA_nil)))))))))))), fun ds b Q l h => ?_⟩
  obtain ⟨⟨n, ks, old, rfl, hk, n1, n6, o0, o20⟩, hb, q⟩ := h
  have hk1 := hk.1
  have hk2 := hk.2.1
  refine ⟨.int 0, rfl, wNext (m := 12) rfl rfl (by decide) (by decide) (by omega) fun v1 b1 v10 v11 h1 => wNext (m := 40) rfl rfl (by decide) (by decide) (by omega) fun v2 b2 v20 v21 h2 => ⟨.int 1000000, rfl, wNext (m := 30) rfl rfl (by decide) (by decide) (by omega) fun v3 b3 v30 v31 h3 => ⟨_, rfl, _, rfl, _, rfl, _, rfl, _, rfl, _, rfl, ?_⟩⟩⟩
  refine wNext (m := 4) rfl rfl (by decide) (by decide) (by omega) fun v4 b4 v40 v41 h4 => ?_
  obtain ⟨x, ex, xs⟩ := lst4 (a := PyData.int 0) (b := .int v1) (c := .int v2) (d := .int (1000000 - v3)) v40 v41
  obtain ⟨sn, rfl, s0, s1⟩ : ∃ sn : Int, x = .int sn ∧ 0 ≤ sn ∧ sn ≤ 1000000 := by
    rcases xs with rfl | rfl | rfl | rfl
    · exact ⟨_, rfl, by decide, by decide⟩
    · exact ⟨_, rfl, by omega, by omega⟩
    · exact ⟨_, rfl, by omega, by omega⟩
    · exact ⟨_, rfl, by omega, by omega⟩
  refine ⟨_, ex, [some .pool, some (.dat (.int n)), some (.dat (.tuple ks)), some (.dat (.int old)), some (.dat (.int sn)), none, none, none], rfl, ?_⟩
  refine wNext (m := old + 1) rfl rfl (by omega) (by omega) (by omega) fun v5 b5 v50 v51 h5 => wNext (m := 2) rfl rfl (by decide) (by decide) (by omega) fun v6 b6 v60 v61 h6 => ?_
  have hm0 : 0 ≤ v5 * v6 := Int.mul_nonneg v50 v60
  have hm1 : v5 * v6 ≤ 20 := by
    have : v6 = 0 ∨ v6 = 1 := by omega
    rcases this with rfl | rfl <;> omega
  refine ⟨.int (v5 * v6), ?_, [some .pool, some (.dat (.int n)), some (.dat (.tuple ks)), some (.dat (.int old)), some (.dat (.int sn)), some (.dat (.int (v5 * v6))), none, none], rfl, ?_⟩
  · exact if_pos (Or.inl ⟨by omega, by omega⟩)
  refine wOne (items := ks) rfl rfl rfl hk1 (by omega) (by omega) fun k b7 km h7 => wNext (m := n) rfl rfl (by omega) (by omega) (by omega) fun v8 b8 v80 v81 h8 => ⟨_, rfl, _, rfl, _, _, rfl, ?_⟩
  refine ⟨_, rfl, _, rfl, _, rfl, _, rfl, .int 1, rfl, wNext (m := 9) rfl rfl (by decide) (by decide) (by omega) fun v9 b9 v90 v91 h9 => ⟨_, rfl, _, rfl, _, rfl, _, rfl, _, rfl, _, rfl, _, rfl, ?_⟩⟩
  exact q _ b9 ⟨n, ks, old, rfl, k, v5 * v6, v8, sn, 1 + v9, rfl, km, hm0, hm1, v80, v81, s0, s1, by omega, by omega⟩ (by omega)
theorem ok_part {f : Addr} {fd : FuncData} (F : Fun K "_law_part" "_law_part" s_law_part f fd) (m_min : mg "min" = none) (C__law_next : Cl P w K mg base 1 "_law_next" ["_law_drawn", "_law_below"] (spN 1 gNext)) (C__law_one : Cl P w K mg base 2 "_law_one" ["_law_drawn", "_law_wares"] (spN 1 gOne)) : FnOk P w K mg base CX0 3 f fd ["_law_drawn", "_law_kinds_here", "_law_old"] (spN 2 gPart) := by
  refine okFnN F sc_law_part rfl fun cdv A outer s H E hr => ⟨_, (nSs_cons (nS_asg (K := K) (p := .nm 3) (ps_set (i := 3) sc_law_part.nd rfl (.inl rfl) (nE_draw C__law_next (hr.mono (by omega)) (by rfl) (pv 0) (nA_cons (nE_pure (dE_op o_add (dE_var (μ := true) (pv 2)) (dE_c (μ := true) pe_int))) nA_nil))))
  (nSs_cons (nS_asg (K := K) (p := .nm 4) (ps_set (i := 4) sc_law_part.nd rfl (.inl rfl) (nE_ix (nE_lst (nA_cons (nE_pure (dE_var (μ := true) (pv 3))) (nA_cons (nE_callB (c_min2 rfl) (by rfl) m_min (by decide +kernel) (nA_cons (nE_pure (dE_var (μ := true) (pv 2))) (nA_cons (nE_op o_add (nE_pure (dE_var (μ := true) (pv 3))) (nE_draw C__law_next (hr.mono (by omega)) (by rfl) (pv 0) (nA_cons (nE_pure (dE_c (μ := true) pe_int)) nA_nil))) nA_nil))) (nA_cons (nE_pure (dE_var (μ := true) (pv 2))) nA_nil)))) (nE_draw C__law_next (hr.mono (by omega)) (by rfl) (pv 0) (nA_cons (nE_pure (dE_c (μ := true) pe_int)) nA_nil)))))
  (nSs_one (nS_ret (ps_ret (nE_tup (nA_cons (nE_draw C__law_one (hr.mono (by omega)) (by rfl) (pv 0) (nA_cons (nE_pure (dE_var (μ := true) (pv 1))) nA_nil)) (nA_cons (nE_ix (nE_pure (dE_lst (dA_cons (dE_var (μ := true) (pv 3)) (dA_cons (dE_var (μ := true) (pv 3)) (dA_cons (dE_c (μ := true) pe_int) (dA_nil (μ := true))))))) (nE_draw C__law_next (hr.mono (by omega)) (by rfl) (pv 0) (nA_cons (nE_pure (dE_c (μ := true) pe_int)) nA_nil))) (nA_cons (nE_pure (dE_var (μ := true) (pv 4))) nA_nil))))))))), fun ds b Q l h => ?_⟩
  obtain ⟨⟨ks, old, rfl, hk, o0, o20⟩, hb, q⟩ := h
  have hk1 := hk.1
  have hk2 := hk.2.1
  refine wNext (m := old + 1) rfl rfl (by omega) (by omega) (by omega) fun v1 b1 v10 v11 h1 => ⟨[some .pool, some (.dat (.tuple ks)), some (.dat (.int old)), some (.dat (.int v1)), none], rfl, ?_⟩
  refine ⟨.int v1, rfl, .int old, rfl, .int v1, rfl, wNext (m := 5) rfl rfl (by decide) (by decide) (by omega) fun v2 b2 v20 v21 h2 => ⟨_, rfl, _, rfl, _, rfl, _, rfl, .int old, rfl, _, rfl, _, rfl, _, rfl, _, rfl, ?_⟩⟩
  refine wNext (m := 3) rfl rfl (by decide) (by decide) (by omega) fun v3 b3 v30 v31 h3 => ?_
  obtain ⟨x, ex, xs⟩ := lst3 (a := PyData.int v1) (b := .int (if v1 + v2 < old then v1 + v2 else old)) (c := .int old) v30 v31
  obtain ⟨gr, rfl, g0, g1⟩ : ∃ gr : Int, x = .int gr ∧ v1 ≤ gr ∧ gr ≤ 20 := by
    rcases xs with rfl | rfl | rfl
    · exact ⟨_, rfl, by omega, by omega⟩
    · exact ⟨_, rfl, by split <;> omega, by split <;> omega⟩
    · exact ⟨_, rfl, by omega, by omega⟩
  refine ⟨_, ex, [some .pool, some (.dat (.tuple ks)), some (.dat (.int old)), some (.dat (.int v1)), some (.dat (.int gr))], rfl, ?_⟩
  refine wOne (items := ks) rfl rfl rfl hk1 (by omega) (by omega) fun k b4 km h4 => ⟨_, rfl, wNext (m := 3) rfl rfl (by decide) (by decide) (by omega) fun v5 b5 v50 v51 h5 => ?_⟩
  obtain ⟨y, ey, ys⟩ := lst3 (a := PyData.int v1) (b := .int v1) (c := .int 0) v50 v51
  obtain ⟨lo, rfl, l0, l1⟩ : ∃ lo : Int, y = .int lo ∧ 0 ≤ lo ∧ lo ≤ v1 := by
    rcases ys with rfl | rfl | rfl
    · exact ⟨_, rfl, by omega, by omega⟩
    · exact ⟨_, rfl, by omega, by omega⟩
    · exact ⟨_, rfl, by omega, by omega⟩
  refine ⟨_, ey, _, rfl, _, rfl, _, rfl, _, rfl, _, rfl, ?_⟩
  exact q _ b5 ⟨ks, old, rfl, k, lo, gr, rfl, km, l0, by omega, g1⟩ (by omega)
end
/-- a comprehension each of whose things costs so much -/
theorem lcN_all {p : Pat} {f : WP D} {ρ : Rho} (c : Nat) (Pt : D → Prop) : ∀ (items : List D) (b : Nat) (Q : List D → Nat → Prop), items.length * c ≤ b →
    (∀ x ∈ items, ∀ b Q, c ≤ b → (∀ d n', Pt d → b ≤ n' + c → Q d n') → ∃ ρ1, bindP p x ρ = some ρ1 ∧ f.w ρ1 b Q) → (∀ r b', r.length = items.length → (∀ d ∈ r, Pt d) → b ≤ b' + items.length * c → Q r b') → lcN p wYes f ρ items b Q
  | [], b, Q, _, _, q => q [] b rfl (fun d m => nomatch m) (by simp)
  | x :: xs, b, Q, hb, hf, q => by
    have e : (x :: xs).length * c = xs.length * c + c := by rw [List.length_cons, Nat.add_mul, Nat.one_mul]
    rw [e] at hb q
    obtain ⟨ρ1, e1, w1⟩ := hf x (by simp) b (fun d b2 => lcN p wYes f ρ xs b2 fun r b3 => Q (d :: r) b3) (by omega) fun d n' pd hn => lcN_all c Pt xs n' _ (by omega) (fun y hy => hf y (by simp [hy])) fun r b' hl hr hb' => q (d :: r) b' (by rw [List.length_cons, List.length_cons, hl]) (fun z hz => by
      rcases List.mem_cons.mp hz with e | e
      · rw [e]; exact pd
      · exact hr z e) (by omega)
    exact ⟨ρ1, e1, w1⟩
/-- a comprehension that keeps some of its items -/
theorem lcN_some {i : Nat} {c : WP Bool} {ρ : Rho} (hi : i < ρ.length) (cst : Nat) : ∀ (items : List D) (b : Nat) (Q : List D → Nat → Prop), items.length * cst ≤ b →
    (∀ x ∈ items, ∀ b Q, cst ≤ b → (∀ k n', b ≤ n' + cst → Q k n') → c.w (ρ.set i (some (.dat x))) b Q) → (∀ r b', r.Sublist items → b ≤ b' + items.length * cst → Q r b') → (∀ x, (shutR true (ρ.set i (some (.dat x))))[i]? = some (some (.dat x))) → lcN (.nm i) c (wP (eVar i)) ρ items b Q
  | [], b, Q, _, _, q, _ => q [] b (List.Sublist.refl _) (by simp)
  | x :: xs, b, Q, hb, hc, q, hv => by
    have e : (x :: xs).length * cst = xs.length * cst + cst := by rw [List.length_cons, Nat.add_mul, Nat.one_mul]
    rw [e] at hb q
    refine ⟨ρ.set i (some (.dat x)), by unfold bindP; rw [if_pos hi], hc x (by simp) b _ (by omega) fun k n' hn => ?_⟩
    cases k with
    | true =>
      refine ⟨x, by unfold eVar; rw [hv x], ?_⟩
      exact lcN_some hi cst xs n' _ (by omega) (fun y hy => hc y (by simp [hy])) (fun r b' hs hb' => q _ b' (hs.cons₂ x) (by omega)) hv
    | false => exact lcN_some hi cst xs n' _ (by omega) (fun y hy => hc y (by simp [hy])) (fun r b' hs hb' => q _ b' (hs.cons x) (by omega)) hv
def WayP (n : Int) (ks : List D) (d : D) : Prop := ∃ (k : D) (ps : List D) (kp : D) (hs : List Int) (wt : Int), d = .tuple [k, .tuple ps, kp, .tuple (hs.map PyData.int), .int wt] ∧ k ∈ ks ∧ 1 ≤ ps.length ∧ ps.length ≤ 3 ∧ (∀ p ∈ ps, PrtP ks p) ∧ (kp = S "oldest" ∨ kp = S "youngest") ∧ hs.Sublist ((List.range n.toNat).map fun (i : Nat) => (0 : Int) + i) ∧ 1 ≤ wt ∧ wt ≤ 6
def gWay : GF := gAny 40 (fun ds => ∃ n ks old, ds = [.int n, .tuple ks, .int old] ∧ Kds ks ∧ 1 ≤ n ∧ n ≤ 6 ∧ 0 ≤ old ∧ old ≤ 20) (fun ds d => ∃ n ks old, ds = [.int n, .tuple ks, .int old] ∧ WayP n ks d)
section
variable {P : Program} {w : World} {K : PySem.W.Frag} {mg : Str → Option Value} {base : Heap}
theorem ok_way {f : Addr} {fd : FuncData} (F : Fun K "_law_way" "_law_way" s_law_way f fd) (m_range : mg "range" = none) (m_tuple : mg "tuple" = none) (C__law_next : Cl P w K mg base 1 "_law_next" ["_law_drawn", "_law_below"] (spN 1 gNext)) (C__law_one : Cl P w K mg base 2 "_law_one" ["_law_drawn", "_law_wares"] (spN 1 gOne)) (C__law_part : Cl P w K mg base 3 "_law_part" ["_law_drawn", "_law_kinds_here", "_law_old"] (spN 2 gPart)) : FnOk P w K mg base CX0 4 f fd ["_law_drawn", "_law_size", "_law_kinds_here", "_law_old"] (spN 3 gWay) := by
  refine okFnN F sc_law_way rfl fun cdv A outer s H E hr => ⟨_, (nSs_cons (nS_asg (K := K) (p := .nm 4) (ps_set (i := 4) sc_law_way.nd rfl (.inl rfl) (nE_callTy c_tuple (by rfl) m_tuple (by decide +kernel) (nA_cons (nE_lc (K := K) (p := (.nm 7)) (pe_lc (own := [("_law_k", 7)]) (g := gP K (.nm 7)) rfl sc_law_way.nd (nI_ran1 (by rfl) m_range (nA_cons (nE_ix (nE_pure (dE_lst (dA_cons (dE_c (μ := true) pe_int) (dA_cons (dE_c (μ := true) pe_int) (dA_cons (dE_c (μ := true) pe_int) (dA_cons (dE_c (μ := true) pe_int) (dA_nil (μ := true)))))))) (nE_draw C__law_next (hr.mono (by omega)) (by rfl) (pv 0) (nA_cons (nE_pure (dE_c (μ := true) pe_int)) nA_nil))) nA_nil)) (blkOk_by (own := [("_law_k", 7)]) (N := ["_law_drawn", "_law_size", "_law_kinds_here", "_law_old", "_law_parts", "_law_hours", "_law_keeps", "_law_k", "_law_place"]) (sc := defScope s_law_way) (by decide +kernel)) (fun _ _ _ _ _ => (pg_name (i := 7) sc_law_way.nd rfl (.inl rfl))) (fun _ _ _ _ _ => nTs_nil) (fun _ _ _ _ _ => (nE_draw C__law_part (hr.mono (by omega)) (by rfl) (pv 0) (nA_cons (nE_pure (dE_var (μ := true) (pv 2))) (nA_cons (nE_pure (dE_var (μ := true) (pv 3))) nA_nil)))))) nA_nil))))
  (nSs_cons (nS_asg (K := K) (p := .nm 5) (ps_set (i := 5) sc_law_way.nd rfl (.inl rfl) (nE_callTy c_tuple (by rfl) m_tuple (by decide +kernel) (nA_cons (nE_lc (K := K) (p := (.nm 8)) (pe_lc (own := [("_law_place", 8)]) (g := gP K (.nm 8)) rfl sc_law_way.nd (nI_pure (dI_ran1 (by rfl) m_range (dA_cons (dE_var (μ := true) (pv 1)) (dA_nil (μ := true))))) (blkOk_by (own := [("_law_place", 8)]) (N := ["_law_drawn", "_law_size", "_law_kinds_here", "_law_old", "_law_parts", "_law_hours", "_law_keeps", "_law_k", "_law_place"]) (sc := defScope s_law_way) (by decide +kernel)) (fun _ _ _ _ _ => (pg_name (i := 8) sc_law_way.nd rfl (.inl rfl))) (fun _ _ _ _ _ => (pts_one (nT_cmp o_gt (nE_draw C__law_next (hr.mono (by omega)) (by rfl) (pv 0) (nA_cons (nE_pure (dE_c (μ := true) pe_int)) nA_nil)) (nE_pure (dE_c (μ := true) pe_int)) (nomark _)))) (fun _ _ _ _ _ => (nE_pure (dE_var (μ := true) (pv 8)))))) nA_nil))))
  (nSs_cons (nS_asg (K := K) (p := .nm 6) (ps_set (i := 6) sc_law_way.nd rfl (.inl rfl) (nE_draw C__law_one (hr.mono (by omega)) (by rfl) (pv 0) (nA_cons (nE_pure (dE_lst (dA_cons (dE_c (μ := true) pe_str) (dA_cons (dE_c (μ := true) pe_str) (dA_nil (μ := true)))))) nA_nil))))
  (nSs_one (nS_ret (ps_ret (nE_tup (nA_cons (nE_draw C__law_one (hr.mono (by omega)) (by rfl) (pv 0) (nA_cons (nE_pure (dE_var (μ := true) (pv 2))) nA_nil)) (nA_cons (nE_pure (dE_var (μ := true) (pv 4))) (nA_cons (nE_pure (dE_var (μ := true) (pv 6))) (nA_cons (nE_pure (dE_var (μ := true) (pv 5))) (nA_cons (nE_op o_add (nE_pure (dE_c (μ := true) pe_int)) (nE_draw C__law_next (hr.mono (by omega)) (by rfl) (pv 0) (nA_cons (nE_pure (dE_c (μ := true) pe_int)) nA_nil))) nA_nil)))))))))))), fun ds b Q l h => ?_⟩
  obtain ⟨⟨n, ks, old, rfl, hk, n1, n6, o0, o20⟩, hb, q⟩ := h
  have hk1 := hk.1
  have hk2 := hk.2.1
  refine ⟨_, rfl, wNext (m := 4) rfl rfl (by decide) (by decide) (by omega) fun v1 b1 v10 v11 h1 => ?_⟩
  obtain ⟨x, ex, xs⟩ := lst4 (a := PyData.int 1) (b := .int 2) (c := .int 2) (d := .int 3) v10 v11
  obtain ⟨m, rfl, m1, m3⟩ : ∃ m : Int, x = .int m ∧ 1 ≤ m ∧ m ≤ 3 := by
    rcases xs with rfl | rfl | rfl | rfl <;> exact ⟨_, rfl, by decide, by decide⟩
  refine ⟨_, ex, _, rfl, rgD 0 m.toNat, ran1_ok (by omega) (by omega), ?_⟩
  have lm : (rgD 0 m.toNat).length = m.toNat := rgD_len _ _
  refine lcN_all 6 (PrtP ks) (rgD 0 m.toNat) b1 _ (by rw [lm]; omega) (fun x hx b Q hb q => ?_) (fun ps b2 lp hp h2 => ?_)
  · obtain ⟨i, _, rfl⟩ := List.mem_map.mp hx
    refine ⟨_, rfl, rfl, .tuple ks, rfl, .int old, rfl, _, rfl, _, rfl, rfl, ⟨ks, old, rfl, hk, o0, o20⟩, hb, fun d n' ⟨ks', old', e, pd⟩ hn => ?_⟩
    cases e
    exact q d n' pd hn
  rw [lm] at lp h2
  refine ⟨_, rfl, .tuple ps, rfl, [some .pool, some (.dat (.int n)), some (.dat (.tuple ks)), some (.dat (.int old)), some (.dat (.tuple ps)), none, none, none, none], rfl, ?_⟩
  refine ⟨rgD 0 n.toNat, ev_itG (ds := [.int n]) rfl (ran1_ok (by omega) (by omega)), ?_⟩
  have ln : (rgD 0 n.toNat).length = n.toNat := rgD_len _ _
  refine lcN_some (by show 8 < 9; decide) 1 (rgD 0 n.toNat) b2 _ (by rw [ln]; omega) (fun x hx b Q hb q => ?_) (fun r b3 hs h3 => ?_) (fun x => rfl)
  · exact wNext (m := 4) rfl rfl (by decide) (by decide) hb fun v n' v0 v1 hn => ⟨.int 0, rfl, _, rfl, _, rfl, q _ n' hn⟩
  rw [ln] at h3
  obtain ⟨hs', hsub, rfl⟩ : ∃ hs' : List Int, hs'.Sublist ((List.range n.toNat).map fun (i : Nat) => (0 : Int) + i) ∧ r = hs'.map PyData.int := by
    have e : rgD 0 n.toNat = ((List.range n.toNat).map fun (i : Nat) => (0 : Int) + i).map PyData.int := by unfold rgD; rw [List.map_map]; rfl
    rw [e] at hs
    exact List.sublist_map_iff.mp hs
  refine ⟨_, rfl, .tuple _, rfl, [some .pool, some (.dat (.int n)), some (.dat (.tuple ks)), some (.dat (.int old)), some (.dat (.tuple ps)), some (.dat (.tuple (hs'.map PyData.int))), none, none, none], rfl, ?_⟩
  refine wOne (items := [S "oldest", S "youngest"]) rfl rfl rfl (by decide) (by decide) (by omega) fun kp b4 km4 h4 => ⟨[some .pool, some (.dat (.int n)), some (.dat (.tuple ks)), some (.dat (.int old)), some (.dat (.tuple ps)), some (.dat (.tuple (hs'.map PyData.int))), some (.dat kp), none, none], rfl, ?_⟩
  refine wOne (items := ks) rfl rfl rfl hk1 (by omega) (by omega) fun k b5 km h5 => ⟨_, rfl, _, rfl, _, rfl, .int 1, rfl, wNext (m := 6) rfl rfl (by decide) (by decide) (by omega) fun v6 b6 v60 v61 h6 => ⟨_, rfl, _, rfl, _, rfl, _, rfl, _, rfl, _, rfl, _, rfl, ?_⟩⟩
  exact q _ b6 ⟨n, ks, old, rfl, k, ps, kp, hs', 1 + v6, rfl, km, by omega, by omega, hp, by simpa using km4, hsub, by omega, by omega⟩ (by omega)
end
end Dl
namespace Dl
open PySem PySem.Spec PyProof.Rows L2 Rt
def gOdd : GF := gAny 1 (fun ds => ds = []) (fun _ d => OddP d)
theorem wOdd {i : Nat} {ρ : Rho} {b : Nat} {Q : D → Nat → Prop} (hp : ρ[i]? = some (some .pool)) (hb : 1 ≤ b) (q : ∀ d n', OddP d → b ≤ n' + 1 → Q d n') : (wCall i 0 gOdd wNil).w ρ b Q := ⟨hp, rfl, rfl, hb, fun d n' p hn => q d n' p hn⟩
def gSp (n : Nat) : GF := gAny (2 * n + 4) (fun ds => ∃ x m, ds = [x] ∧ m ≤ 5 ∧ Bd m n x) (fun ds d => ∃ x, ds = [x] ∧ SpP x d)
theorem oddS (x : String) (h1 : PyData.strOk (Str.ofString x) = true := by decide +kernel) (h2 : (Str.ofString x).length ≤ 20 := by decide +kernel) : OddP (S x) := ⟨fun m => ⟨h1, Nat.le_trans h2 (Nat.le_add_right _ _)⟩, Nat.le_trans h2 (by decide)⟩
def oddL : List D := [.none, .bool true, .bool false, .int (-1), .int (10 ^ 29), S "", S "a", S "oldest", S "youngest", .tuple [], .list [], .dict [], .tuple [.int 0], .list [.int 0], .tuple [.tuple []], S "A", .int 7, .int 21]
theorem odd_all : ∀ d ∈ oddL, OddP d := by
  intro d hd
  unfold oddL at hd
  simp only [List.mem_cons, List.not_mem_nil, or_false] at hd
  rcases hd with rfl | rfl | rfl | rfl | rfl | rfl | rfl | rfl | rfl | rfl | rfl | rfl | rfl | rfl | rfl | rfl | rfl | rfl
  · exact ⟨fun m => trivial, by decide⟩
  · exact ⟨fun m => trivial, by decide⟩
  · exact ⟨fun m => trivial, by decide⟩
  · exact ⟨fun m => by show (1 : Nat) ≤ 10 ^ 29 + 100 * m; omega, wInt (by decide)⟩
  · exact ⟨fun m => by show (10 : Nat) ^ 29 ≤ 10 ^ 29 + 100 * m; omega, wInt (by decide)⟩
  · exact oddS ""
  · exact oddS "a"
  · exact oddS "oldest"
  · exact oddS "youngest"
  · exact ⟨fun m => ⟨Nat.zero_le _, fun d h => nomatch h⟩, by decide⟩
  · exact ⟨fun m => ⟨Nat.zero_le _, fun d h => nomatch h⟩, by decide⟩
  · exact ⟨fun m => rfl, by decide⟩
  · exact ⟨fun m => ⟨by show 1 ≤ 10 + m; omega, fun d h => by rw [List.mem_singleton.mp h]; exact Nat.zero_le _⟩, by decide⟩
  · exact ⟨fun m => ⟨by show 1 ≤ 10 + m; omega, fun d h => by rw [List.mem_singleton.mp h]; exact Nat.zero_le _⟩, by decide⟩
  · exact ⟨fun m => ⟨by show 1 ≤ 10 + m; omega, fun d h => by rw [List.mem_singleton.mp h]; exact ⟨Nat.zero_le _, fun d h => nomatch h⟩⟩, by decide⟩
  · exact oddS "A"
  · exact ⟨fun m => by show (7 : Nat) ≤ 10 ^ 29 + 100 * m; omega, wInt (by decide)⟩
  · exact ⟨fun m => by show (21 : Nat) ≤ 10 ^ 29 + 100 * m; omega, wInt (by decide)⟩
theorem iteB {c : Bool} {A B : Prop} (h1 : c = true → A) (h2 : c = false → B) : if c = true then A else B := by
  cases c with
  | true => exact h1 rfl
  | false => exact h2 rfl
theorem ev_lstX {g : Rho → Option (List D)} {ρ : Rho} {ds : List D} (h : g ρ = some ds) (hl : ds.length ≤ 1000) : eLst g ρ = some (.list ds) := by
  unfold eLst
  rw [h]
  exact if_pos (sz (by omega))
theorem ev_slX {f : EF} {lo hi : Rho → Option (Option Int)} {ρ : Rho} {d r : D} {l h : Option Int} (h1 : f ρ = some d) (h2 : lo ρ = some l) (h3 : hi ρ = some h) (h4 : slX d l h = some r) : eSlX f lo hi ρ = some r := by
  unfold eSlX
  rw [h1]
  show (lo ρ).bind _ = _
  rw [h2]
  show (hi ρ).bind _ = _
  rw [h3]
  exact h4
theorem addX_tup {a b : List D} (h : a.length + b.length ≤ 1000) : addX (.tuple a) (.tuple b) = some (.tuple (a ++ b)) := if_pos (sz (by omega))
theorem addX_str {a b : Str} (h : a.length + b.length ≤ 1000) : addX (.str a) (.str b) = some (.str (a ++ b)) := if_pos (sz (by omega))
section
variable {P : Program} {w : World} {K : PySem.W.Frag} {mg : Str → Option Value} {base : Heap}
theorem ok_odd {f : Addr} {fd : FuncData} (F : Fun K "_law_odd" "_law_odd" s_law_odd f fd) (C__law_one : Cl P w K mg base 2 "_law_one" ["_law_drawn", "_law_wares"] (spN 1 gOne)) : FnOk P w K mg base CX0 3 f fd ["_law_drawn"] (spN 0 gOdd) := by
  refine okFnN F sc_law_odd rfl fun cdv A outer s H E hr => ⟨_, (nSs_cons (nS_asg (K := K) (p := .nm 1) (ps_set (i := 1) sc_law_odd.nd rfl (.inl rfl) (nE_pure (dE_lst (dA_cons (dE_c (μ := true) pe_non) (dA_cons (dE_c (μ := true) pe_bl) (dA_cons (dE_c (μ := true) pe_bl) (dA_cons (dE_neg (dE_c (μ := true) pe_int)) (dA_cons (dE_op o_pow (dE_c (μ := true) pe_int) (dE_c (μ := true) pe_int)) (dA_cons (dE_c (μ := true) pe_str) (dA_cons (dE_c (μ := true) pe_str) (dA_cons (dE_c (μ := true) pe_str) (dA_cons (dE_c (μ := true) pe_str) (dA_cons (dE_tup (dA_nil (μ := true))) (dA_cons (dE_lst (dA_nil (μ := true))) (dA_cons (dE_dic0 (μ := true)) (dA_cons (dE_tup (dA_cons (dE_c (μ := true) pe_int) (dA_nil (μ := true)))) (dA_cons (dE_lst (dA_cons (dE_c (μ := true) pe_int) (dA_nil (μ := true)))) (dA_cons (dE_tup (dA_cons (dE_tup (dA_nil (μ := true))) (dA_nil (μ := true)))) (dA_cons (dE_c (μ := true) pe_str) (dA_cons (dE_c (μ := true) pe_int) (dA_cons (dE_c (μ := true) pe_int) (dA_nil (μ := true))))))))))))))))))))))))
  (nSs_one (nS_ret (ps_ret (nE_draw C__law_one (hr.mono (by omega)) (by rfl) (pv 0) (nA_cons (nE_pure (dE_var (μ := true) (pv 1))) nA_nil)))))), fun ds b Q l h => ?_⟩
  obtain ⟨rfl, hb, q⟩ := h
  refine ⟨.list oddL, rfl, [some .pool, some (.dat (.list oddL))], rfl, ?_⟩
  exact wOne (items := oddL) rfl rfl rfl (by decide) (by decide) hb fun d b1 dm h1 => q d b1 (odd_all d dm) h1
theorem ok_spoiltS {f : Addr} {fd : FuncData} {k n : Nat} (hk : 3 ≤ k) (F : Fun K "_law_spoilt" "_law_spoilt" s_law_spoilt f fd) (m_isinstance : mg "isinstance" = none) (m_tuple : mg "tuple" = none) (m_len : mg "len" = none) (m_list : mg "list" = none) (m_str : mg "str" = none) (m_int : mg "int" = none)
    (C__law_next : Cl P w K mg base 1 "_law_next" ["_law_drawn", "_law_below"] (spN 1 gNext)) (C__law_one : Cl P w K mg base 2 "_law_one" ["_law_drawn", "_law_wares"] (spN 1 gOne)) (C__law_odd : Cl P w K mg base 3 "_law_odd" ["_law_drawn"] (spN 0 gOdd)) (C__law_spoilt : Cl P w K mg base k "_law_spoilt" ["_law_drawn", "_law_thing"] (spN 1 (gSp n))) :
    FnOk P w K mg base CX0 (k + 1) f fd ["_law_drawn", "_law_thing"] (spN 1 (gSp (n + 1))) := by
  refine okFnN F sc_law_spoilt rfl fun cdv A outer s H E hr => ⟨_, (nSs_cons (nS_if (PW.pt (nW_and (nT_pure (dT_val (dE_isi (dE_var (μ := true) (pv 1)) (pe_bltn (v := .ty "tuple") (by rfl) m_tuple (by decide +kernel) rfl) (by rfl) m_isinstance (by decide +kernel)))) (nW_and (nT_pure (dT_cmp (o_neT0 hr.units) (dE_var (μ := true) (pv 1)) (dE_tup (dA_nil (μ := true))) (nomark _))) (nW_and1 (nT_cmp o_gt (nE_draw C__law_next (hr.mono (by omega)) (by rfl) (pv 0) (nA_cons (nE_pure (dE_c (μ := true) pe_int)) nA_nil)) (nE_pure (dE_c (μ := true) pe_int)) (nomark _))))))
    (nSs_cons (nS_asg (K := K) (p := .nm 2) (ps_set (i := 2) sc_law_spoilt.nd rfl (.inl rfl) (nE_draw C__law_next (hr.mono (by omega)) (by rfl) (pv 0) (nA_cons (nE_pure (dE_callB c_len (by rfl) m_len (by decide +kernel) (dA_cons (dE_var (μ := true) (pv 1)) (dA_nil (μ := true))))) nA_nil))))
  (nSs_one (nS_ret (ps_ret (nE_op o_addX (nE_op o_addX (nE_pure (dE_slX (dE_var (μ := true) (pv 1)) dO_none (dO_some (dE_var (μ := true) (pv 2))))) (nE_tup (nA_cons (nE_draw C__law_spoilt (hr.mono (by omega)) (by rfl) (pv 0) (nA_cons (nE_pure (dE_ix (dE_var (μ := true) (pv 1)) (dE_var (μ := true) (pv 2)))) nA_nil)) nA_nil))) (nE_pure (dE_slX (dE_var (μ := true) (pv 1)) (dO_some (dE_op o_addX (dE_var (μ := true) (pv 2)) (dE_c (μ := true) pe_int))) dO_none)))))))
    nSs_nil)
  (nSs_cons (nS_asg (K := K) (p := .nm 3) (ps_set (i := 3) sc_law_spoilt.nd rfl (.inl rfl) (nE_lst (nA_cons (nE_draw C__law_odd (hr.mono (by omega)) (by rfl) (pv 0) nA_nil) (nA_cons (nE_draw C__law_odd (hr.mono (by omega)) (by rfl) (pv 0) nA_nil) nA_nil)))))
  (nSs_cons (nS_if (nT_pure (dT_val (dE_isi (dE_var (μ := true) (pv 1)) (pe_bltn (v := .ty "tuple") (by rfl) m_tuple (by decide +kernel) rfl) (by rfl) m_isinstance (by decide +kernel))))
    (nSs_one (nS_asg (K := K) (p := .nm 3) (ps_set (i := 3) sc_law_spoilt.nd rfl (.inl rfl) (nE_pure (dE_op o_addX (dE_var (μ := true) (pv 3)) (dE_lst (dA_cons (dE_slX (dE_var (μ := true) (pv 1)) (dO_some (dE_c (μ := true) pe_int)) dO_none) (dA_cons (dE_op o_addX (dE_var (μ := true) (pv 1)) (dE_slX (dE_var (μ := true) (pv 1)) (dO_some (dE_neg (dE_c (μ := true) pe_int))) dO_none)) (dA_cons (dE_rev (dE_var (μ := true) (pv 1))) (dA_cons (dE_callTy c_list (by rfl) m_list (by decide +kernel) (dA_cons (dE_var (μ := true) (pv 1)) (dA_nil (μ := true)))) (dA_nil (μ := true))))))))))))
    (nSs_one (nS_if (nT_pure (dT_val (dE_isi (dE_var (μ := true) (pv 1)) (pe_bltn (v := .ty "str") (by rfl) m_str (by decide +kernel) rfl) (by rfl) m_isinstance (by decide +kernel))))
    (nSs_one (nS_asg (K := K) (p := .nm 3) (ps_set (i := 3) sc_law_spoilt.nd rfl (.inl rfl) (nE_pure (dE_op o_addX (dE_var (μ := true) (pv 3)) (dE_lst (dA_cons (dE_op o_addX (dE_var (μ := true) (pv 1)) (dE_c (μ := true) pe_str)) (dA_cons (dE_slX (dE_var (μ := true) (pv 1)) dO_none (dO_some (dE_neg (dE_c (μ := true) pe_int)))) (dA_cons (dE_op o_addX (dE_var (μ := true) (pv 1)) (dE_c (μ := true) pe_str)) (dA_cons (dE_op o_addX (dE_var (μ := true) (pv 1)) (dE_op o_mulX (dE_c (μ := true) pe_str) (dE_c (μ := true) pe_int))) (dA_nil (μ := true))))))))))))
    (nSs_one (nS_if (nT_pure (dT_val (dE_isi (dE_var (μ := true) (pv 1)) (pe_bltn (v := .ty "int") (by rfl) m_int (by decide +kernel) rfl) (by rfl) m_isinstance (by decide +kernel))))
    (nSs_one (nS_asg (K := K) (p := .nm 3) (ps_set (i := 3) sc_law_spoilt.nd rfl (.inl rfl) (nE_pure (dE_op o_addX (dE_var (μ := true) (pv 3)) (dE_lst (dA_cons (dE_op o_addX (dE_var (μ := true) (pv 1)) (dE_c (μ := true) pe_int)) (dA_cons (dE_op o_subX (dE_var (μ := true) (pv 1)) (dE_c (μ := true) pe_int)) (dA_cons (dE_op o_addX (dE_var (μ := true) (pv 1)) (dE_c (μ := true) pe_int)) (dA_cons (dE_cmp (o_eq hr.units) (dE_var (μ := true) (pv 1)) (dE_c (μ := true) pe_int) (nomark _)) (dA_nil (μ := true))))))))))))
    nSs_nil)))))
  (nSs_one (nS_ret (ps_ret (nE_draw C__law_one (hr.mono (by omega)) (by rfl) (pv 0) (nA_cons (nE_pure (dE_var (μ := true) (pv 3))) nA_nil)))))))), fun ds b Q l h => ?_⟩
  obtain ⟨⟨x, m, rfl, hm, hx⟩, hb, q⟩ := h
  refine wIfTail (fun b' => b ≤ b' + 1) (fun b0 h0 => ?_) (fun base => ?_)
  · refine wOdd rfl (by omega) fun o1 b1 p1 h1 => wOdd rfl (by omega) fun o2 b2 p2 h2 => ⟨_, rfl, _, rfl, .list [o1, o2], rfl, [some .pool, some (.dat x), none, some (.dat (.list [o1, o2]))], rfl, ?_⟩
    have all : ∀ {L : List D}, (∀ d ∈ L, SpP x d) → ∀ d ∈ [o1, o2] ++ L, SpP x d := fun {L} h d hd => by
      rcases List.mem_append.mp hd with hd | hd
      · rcases List.mem_cons.mp hd with rfl | hd
        · exact p1.sp
        · rw [List.mem_singleton.mp hd]; exact p2.sp
      · exact h d hd
    cases x with
    | tuple xs =>
      have xl : xs.length ≤ 15 := Nat.le_trans hx.1 (by omega)
      let L : List D := [.tuple (xs.drop 1), .tuple (xs ++ xs.drop (xs.length - 1)), .tuple xs.reverse, .list xs]
      refine ⟨true, ev_oB (isiV rfl (isi_tuple _)), ?_⟩
      refine ⟨.list ([o1, o2] ++ L), ?_, [some .pool, some (.dat (.tuple xs)), none, some (.dat (.list ([o1, o2] ++ L)))], rfl, ?_⟩
      · refine ev_e2 (a := .list [o1, o2]) (b := .list L) rfl (ev_lstX (ev_cons ?_ (ev_cons ?_ (ev_cons rfl (ev_cons rfl rfl)))) (show 4 ≤ 1000 by decide)) rfl
        · exact ev_slX (d := .tuple xs) rfl rfl rfl (by show some (PyData.tuple (cutD xs (some 1) none)) = _; rw [cut1])
        · refine ev_e2 (a := .tuple xs) (b := .tuple (xs.drop (xs.length - 1))) rfl (ev_slX (d := .tuple xs) (l := some (-1)) rfl rfl rfl (by show some (PyData.tuple (cutD xs (some (-1)) none)) = _; rw [cut_last])) (addX_tup (by rw [List.length_drop]; omega))
      · refine wOne (items := [o1, o2] ++ L) rfl rfl rfl (by simp) (by simp [L]) (by omega) fun d b4 dm h4 => q d b4 ⟨_, rfl, all (fun d hd => ?_) d dm⟩ (by omega)
        simp only [L, List.mem_cons, List.not_mem_nil, or_false] at hd
        rcases hd with rfl | rfl | rfl | rfl
        · exact sp_drop
        · exact sp_more
        · exact sp_rev
        · exact sp_list
    | str z =>
      have zl : z.length ≤ 120 := Nat.le_trans hx.2 (by omega)
      let L : List D := [.str (z ++ Str.ofString "a"), .str (cutS z none (some (-1))), .str (z ++ Str.ofString "1"), .str (z ++ repS (Str.ofString "z") 8)]
      refine ⟨false, ev_oB (isiV rfl (isi_tuple _)), ⟨true, ev_oB (isiV rfl (isi_str _)), ?_⟩⟩
      refine ⟨.list ([o1, o2] ++ L), ?_, [some .pool, some (.dat (.str z)), none, some (.dat (.list ([o1, o2] ++ L)))], rfl, ?_⟩
      · refine ev_e2 (a := .list [o1, o2]) (b := .list L) rfl (ev_lstX (ev_cons ?_ (ev_cons ?_ (ev_cons ?_ (ev_cons ?_ rfl)))) (show 4 ≤ 1000 by decide)) rfl
        · exact ev_e2 (a := .str z) (b := .str (Str.ofString "a")) rfl rfl (addX_str (by have : (Str.ofString "a").length = 1 := rfl; omega))
        · exact ev_slX (d := .str z) (h := some (-1)) rfl rfl rfl rfl
        · exact ev_e2 (a := .str z) (b := .str (Str.ofString "1")) rfl rfl (addX_str (by have : (Str.ofString "1").length = 1 := rfl; omega))
        · exact ev_e2 (a := .str z) (b := .str (repS (Str.ofString "z") 8)) rfl rfl (addX_str (by have : (repS (Str.ofString "z") 8).length = 8 := (by decide +kernel); omega))
      · refine wOne (items := [o1, o2] ++ L) rfl rfl rfl (by simp) (by simp [L]) (by omega) fun d b4 dm h4 => q d b4 ⟨_, rfl, all (fun d hd => ?_) d dm⟩ (by omega)
        have app : ∀ y : Str, (∀ c ∈ y.cps.toList, c < 1114112) → y.length ≤ 8 → SpP (.str z) (.str (z ++ y)) := fun y hy hl => sp_str (fun c hc => by
          rw [s_app] at hc
          rcases List.mem_append.mp hc with h | h
          · exact .inl h
          · exact .inr (hy c h)) (by rw [s_len, s_app, List.length_append, ← s_len, ← s_len]; omega)
        simp only [L, List.mem_cons, List.not_mem_nil, or_false] at hd
        rcases hd with rfl | rfl | rfl | rfl
        · exact app _ (by decide +kernel) (by decide +kernel)
        · refine sp_str (fun c hc => .inl ?_) (Nat.le_trans (cutS_length _ _ _) (by omega))
          unfold cutS at hc
          exact List.mem_of_mem_drop (List.mem_of_mem_take (by simpa using hc))
        · exact app _ (by decide +kernel) (by decide +kernel)
        · exact app _ (by decide +kernel) (by decide +kernel)
    | int i =>
      have ib : i.natAbs < 10 ^ 30 := big30 (by omega) hx
      let L : List D := [.int (i + 1), .int (i - 1), .int (i + 20), .bool (PyData.eqv (.int i) (.int 1))]
      refine ⟨false, ev_oB (isiV rfl (isi_tuple _)), ⟨false, ev_oB (isiV rfl (isi_str _)), ⟨true, ev_oB (isiV rfl (isi_int _)), ?_⟩⟩⟩
      refine ⟨.list ([o1, o2] ++ L), rfl, [some .pool, some (.dat (.int i)), none, some (.dat (.list ([o1, o2] ++ L)))], rfl, ?_⟩
      refine wOne (items := [o1, o2] ++ L) rfl rfl rfl (by simp) (by simp [L]) (by omega) fun d b4 dm h4 => q d b4 ⟨_, rfl, all (fun d hd => ?_) d dm⟩ (by omega)
      simp only [L, List.mem_cons, List.not_mem_nil, or_false] at hd
      rcases hd with rfl | rfl | rfl | rfl
      · exact sp_int (i := i) (fun _ _ _ h => h) ib (by omega)
      · exact sp_int (i := i) (fun _ _ _ h => h) ib (by omega)
      · exact sp_int (i := i) (fun _ _ _ h => h) ib (by omega)
      · exact sp_bool
    | bool t =>
      let i : Int := if t = true then 1 else 0
      have i2 : i.natAbs ≤ 1 := by cases t <;> decide
      let L : List D := [.int (i + 1), .int (i - 1), .int (i + 20), .bool (PyData.eqv (.bool t) (.int 1))]
      refine ⟨false, ev_oB (isiV rfl (isi_tuple _)), ⟨false, ev_oB (isiV rfl (isi_str _)), ⟨true, ev_oB (isiV rfl (isi_int _)), ?_⟩⟩⟩
      refine ⟨.list ([o1, o2] ++ L), rfl, [some .pool, some (.dat (.bool t)), none, some (.dat (.list ([o1, o2] ++ L)))], rfl, ?_⟩
      refine wOne (items := [o1, o2] ++ L) rfl rfl rfl (by simp) (by simp [L]) (by omega) fun d b4 dm h4 => q d b4 ⟨_, rfl, all (fun d hd => ?_) d dm⟩ (by omega)
      have hi : ∀ m k, m ≤ 5 → Bd m k (.bool t) → Bd m k (.int i) := fun m k _ h => by
        cases k with
        | zero => exact h
        | succ k => exact Nat.le_trans i2 (by omega)
      have ib : i.natAbs < 10 ^ 30 := Nat.lt_of_le_of_lt i2 (by decide)
      simp only [L, List.mem_cons, List.not_mem_nil, or_false] at hd
      rcases hd with rfl | rfl | rfl | rfl
      · exact sp_int (i := i) hi ib (by omega)
      · exact sp_int (i := i) hi ib (by omega)
      · exact sp_int (i := i) hi ib (by omega)
      · exact sp_bool
    | none =>
      refine ⟨false, ev_oB (isiV rfl (isi_tuple _)), ⟨false, ev_oB (isiV rfl (isi_str _)), ⟨false, ev_oB (isiV rfl (isi_int _)), ?_⟩⟩⟩
      exact wOne (items := [o1, o2]) rfl rfl rfl (by simp) (by simp) (by omega) fun d b4 dm h4 => q d b4 ⟨_, rfl, all (L := []) (fun d hd => nomatch hd) d dm⟩ (by omega)
    | list xs =>
      refine ⟨false, ev_oB (isiV rfl (isi_tuple _)), ⟨false, ev_oB (isiV rfl (isi_str _)), ⟨false, ev_oB (isiV rfl (isi_int _)), ?_⟩⟩⟩
      exact wOne (items := [o1, o2]) rfl rfl rfl (by simp) (by simp) (by omega) fun d b4 dm h4 => q d b4 ⟨_, rfl, all (L := []) (fun d hd => nomatch hd) d dm⟩ (by omega)
    | dict xs =>
      refine ⟨false, ev_oB (isiV rfl (isi_tuple _)), ⟨false, ev_oB (isiV rfl (isi_str _)), ⟨false, ev_oB (isiV rfl (isi_int _)), ?_⟩⟩⟩
      exact wOne (items := [o1, o2]) rfl rfl rfl (by simp) (by simp) (by omega) fun d b4 dm h4 => q d b4 ⟨_, rfl, all (L := []) (fun d hd => nomatch hd) d dm⟩ (by omega)
  · by_cases ht : ∃ xs, x = .tuple xs
    · obtain ⟨xs, rfl⟩ := ht
      have xl : xs.length ≤ 15 := Nat.le_trans hx.1 (by omega)
      by_cases ne : xs = []
      · subst ne
        exact ⟨true, ev_oB (isiV rfl (isi_tuple _)), ⟨false, rfl, base b (by omega)⟩⟩
      · have x0 : 0 < xs.length := by
          cases xs with
          | nil => exact (ne rfl).elim
          | cons _ _ => simp
        have e0 : (!xs.isEmpty) = true := by
          cases xs with
          | nil => exact (ne rfl).elim
          | cons _ _ => rfl
        refine ⟨true, ev_oB (isiV rfl (isi_tuple _)), ⟨true, by show some (!xs.isEmpty) = some true; rw [e0], ?_⟩⟩
        refine wNext (m := 6) rfl rfl (by decide) (by decide) (by omega) fun v b1 v0 v1 h1 => ⟨.int 0, rfl, _, rfl, _, rfl, ?_⟩
        refine iteB (c := decide (v > 0)) (fun hv => ?_) (fun hv => ?_)
        · refine wNext (m := xs.length) rfl rfl (by omega) (by omega) (by omega) fun v2 b2 v20 v21 h2 => ?_
          obtain ⟨j, rfl⟩ := Int.eq_ofNat_of_zero_le v20
          have hj : j < xs.length := by omega
          obtain ⟨y, hy⟩ : ∃ y, xs[j]? = some y := ⟨_, List.getElem?_eq_getElem hj⟩
          refine ⟨[some .pool, some (.dat (.tuple xs)), some (.dat (.int j)), none], rfl, ?_⟩
          refine ⟨.tuple (xs.take j), ev_slX (d := .tuple xs) (h := some (j : Int)) rfl rfl rfl (by show some (PyData.tuple (cutD xs none (some (j : Int)))) = _; rw [cut_to (by omega)]), rfl, y, atI_nat hy, _, rfl, rfl, ⟨y, m, rfl, hm, hx.2 y (List.mem_of_getElem? hy)⟩, by omega, fun d n' ⟨y', e', sp⟩ hn => ?_⟩
          cases e'
          refine ⟨_, rfl, .tuple [d], rfl, .tuple (xs.take j ++ [d]), addX_tup (by rw [List.length_take]; simp; omega), .tuple (xs.drop (j + 1)), ?_, .tuple (xs.set j d), ?_, ?_⟩
          · exact ev_slX (d := .tuple xs) (l := some ((j : Int) + 1)) rfl rfl rfl (by show some (PyData.tuple (cutD xs (some ((j : Int) + 1)) none)) = _; rw [show ((j : Int) + 1) = ((j + 1 : Nat) : Int) by omega, cut_fr (by omega)])
          · rw [addX_tup (by rw [List.length_append, List.length_take, List.length_drop]; simp; omega), List.set_eq_take_append_cons_drop, if_pos hj, List.append_assoc]
            rfl
          · exact q _ n' ⟨_, rfl, sp_set hy sp⟩ (by omega)
        · exact base b1 (by omega)
    · refine ⟨false, ev_oB (isiV rfl ((isi_tuple _).trans ?_)), base b (by omega)⟩
      cases x <;> first | rfl | exact (ht ⟨_, rfl⟩).elim
theorem ok_neverN {k n : Nat} {f : Addr} {fd : FuncData} {ps : List Str} {G : GF} (hg : ∀ ds b Q, ¬ G.f ds b Q) : FnOk P w K mg base CX0 k f fd ps (spN n G) :=
  ⟨fun vs H Q E h => by
    obtain ⟨g, M, ws, ds, b, _, _, _, _, _, _, z⟩ := h
    exact (hg _ _ _ z).elim, fun A outer s H args us vs Q E _ _ _ _ h => by
    obtain ⟨g, M, ws, ds, b, _, _, _, _, _, _, z⟩ := h
    exact (hg _ _ _ z).elim⟩
theorem ok_spoilt {f : Addr} {fd : FuncData} (F : Fun K "_law_spoilt" "_law_spoilt" s_law_spoilt f fd) (b : Binds K fd ["_law_drawn", "_law_thing"] []) (g : mg "_law_spoilt" = some (.ref f)) (m_isinstance : mg "isinstance" = none) (m_tuple : mg "tuple" = none) (m_len : mg "len" = none) (m_list : mg "list" = none) (m_str : mg "str" = none) (m_int : mg "int" = none)
    (C__law_next : Cl P w K mg base 1 "_law_next" ["_law_drawn", "_law_below"] (spN 1 gNext)) (C__law_one : Cl P w K mg base 2 "_law_one" ["_law_drawn", "_law_wares"] (spN 1 gOne)) (C__law_odd : Cl P w K mg base 3 "_law_odd" ["_law_drawn"] (spN 0 gOdd)) :
    FnOk P w K mg base CX0 15 f fd ["_law_drawn", "_law_thing"] (spN 1 (gSp 12)) := by
  have st : ∀ n : Nat, FnOk P w K mg base CX0 (3 + n) f fd ["_law_drawn", "_law_thing"] (spN 1 (gSp n)) := by
    intro n
    induction n with
    | zero =>
      refine ok_neverN fun ds b Q h => ?_
      obtain ⟨⟨x, m, _, _, z⟩, _⟩ := h
      exact z
    | succ n ih => exact ok_spoiltS (Nat.le_add_right 3 n) F m_isinstance m_tuple m_len m_list m_str m_int C__law_next C__law_one C__law_odd ⟨f, fd, ih, g, F.kp, b⟩
  exact st 12
end
end Dl
namespace Dl
open PySem PySem.Spec PyProof.Rows L2 Rt
structure WorldP (d : D) : Prop where
  ex : ∃ (n : Int) (ks ss ws : List D), d = .tuple [.int n, .tuple ks, .tuple ss, .tuple ws] ∧ 1 ≤ n ∧ n ≤ 6 ∧ Kds ks ∧ kindsF (.tuple ks) = .none ∧ ss.length ≤ 6 ∧ (∀ s ∈ ss, SrcP n ks s) ∧ 1 ≤ ws.length ∧ ws.length ≤ 8 ∧ ∀ w ∈ ws, WayP n ks w
def gKinds : GF := gAny 10 (fun ds => ∃ m : Int, ds = [.int m] ∧ 1 ≤ m ∧ m ≤ 4) (fun ds d => ∃ (m : Int) (ks : List D), ds = [.int m] ∧ d = .tuple ks ∧ Kds ks ∧ kindsF (.tuple ks) = .none)
def gWorld : GF := gAny 500 (fun ds => ∃ wide old : Int, ds = [.int wide, .int old] ∧ 1 ≤ wide ∧ wide ≤ 6 ∧ 0 ≤ old ∧ old ≤ 20) (fun ds d => WorldP d)
theorem lst6 {α : Type} {a b c d e f : α} {i : Int} (h0 : 0 ≤ i) (h1 : i < 6) : ∃ x, L2.atI [a, b, c, d, e, f] i = some x ∧ (x = a ∨ x = b ∨ x = c ∨ x = d ∨ x = e ∨ x = f) := by
  obtain ⟨x, e, m, _⟩ := atI_in (xs := [a, b, c, d, e, f]) h0 h1
  exact ⟨x, e, by simpa using m⟩
section
variable {P : Program} {w : World} {K : PySem.W.Frag} {mg : Str → Option Value} {base : Heap}
theorem ok_world {f : Addr} {fd : FuncData} (F : Fun K "_law_world" "_law_world" s_law_world f fd) (m_range : mg "range" = none) (m_tuple : mg "tuple" = none) (C__law_next : Cl P w K mg base 1 "_law_next" ["_law_drawn", "_law_below"] (spN 1 gNext)) (C__law_kinds : Cl P w K mg base 3 "_law_kinds" ["_law_drawn", "_law_many"] (spN 1 gKinds)) (C__law_source : Cl P w K mg base 3 "_law_source" ["_law_drawn", "_law_size", "_law_kinds_here", "_law_old"] (spN 3 gSource)) (C__law_way : Cl P w K mg base 4 "_law_way" ["_law_drawn", "_law_size", "_law_kinds_here", "_law_old"] (spN 3 gWay)) : FnOk P w K mg base CX0 5 f fd ["_law_drawn", "_law_wide", "_law_old"] (spN 2 gWorld) := by
  refine okFnN F sc_law_world rfl fun cdv A outer s H E hr => ⟨_, (nSs_cons (nS_asg (K := K) (p := .nm 3) (ps_set (i := 3) sc_law_world.nd rfl (.inr rfl) (nE_op o_add (nE_pure (dE_c (μ := true) pe_int)) (nE_draw C__law_next (hr.mono (by omega)) (by rfl) (pv 0) (nA_cons (nE_pure (dE_var (μ := true) (pv 1))) nA_nil)))))
  (nSs_cons (nS_asg (K := K) (p := .nm 4) (ps_set (i := 4) sc_law_world.nd rfl (.inr rfl) (nE_draw C__law_kinds (hr.mono (by omega)) (by rfl) (pv 0) (nA_cons (nE_op o_add (nE_pure (dE_c (μ := true) pe_int)) (nE_draw C__law_next (hr.mono (by omega)) (by rfl) (pv 0) (nA_cons (nE_pure (dE_c (μ := true) pe_int)) nA_nil))) nA_nil))))
  (nSs_cons (nS_asg (K := K) (p := .nm 5) (ps_set (i := 5) sc_law_world.nd rfl (.inl rfl) (nE_ix (nE_pure (dE_lst (dA_cons (dE_c (μ := true) pe_int) (dA_cons (dE_c (μ := true) pe_int) (dA_cons (dE_c (μ := true) pe_int) (dA_cons (dE_c (μ := true) pe_int) (dA_cons (dE_c (μ := true) pe_int) (dA_cons (dE_c (μ := true) pe_int) (dA_nil (μ := true)))))))))) (nE_draw C__law_next (hr.mono (by omega)) (by rfl) (pv 0) (nA_cons (nE_pure (dE_c (μ := true) pe_int)) nA_nil)))))
  (nSs_cons (nS_asg (K := K) (p := .nm 6) (ps_set (i := 6) sc_law_world.nd rfl (.inl rfl) (nE_callTy c_tuple (by rfl) m_tuple (by decide +kernel) (nA_cons (nE_lc (K := K) (p := (.nm 8)) (pe_lc (own := [("_law_k", 8)]) (g := gP K (.nm 8)) rfl sc_law_world.nd (nI_pure (dI_ran1 (by rfl) m_range (dA_cons (dE_var (μ := true) (pv 5)) (dA_nil (μ := true))))) (blkOk_by (own := [("_law_k", 8)]) (N := ["_law_drawn", "_law_wide", "_law_old", "_law_size", "_law_kinds_here", "_law_many", "_law_sources", "_law_ways", "_law_k"]) (sc := defScope s_law_world) (by decide +kernel)) (fun _ _ _ _ _ => (pg_name (i := 8) sc_law_world.nd rfl (.inl rfl))) (fun _ _ _ _ _ => nTs_nil) (fun _ _ _ _ _ => (nE_draw C__law_source (hr.mono (by omega)) (by rfl) (pv 0) (nA_cons (nE_pure (dE_var (μ := true) (pv 3))) (nA_cons (nE_pure (dE_var (μ := true) (pv 4))) (nA_cons (nE_pure (dE_var (μ := true) (pv 2))) nA_nil))))))) nA_nil))))
  (nSs_cons (nS_asg (K := K) (p := .nm 5) (ps_set (i := 5) sc_law_world.nd rfl (.inl rfl) (nE_ix (nE_pure (dE_lst (dA_cons (dE_c (μ := true) pe_int) (dA_cons (dE_c (μ := true) pe_int) (dA_cons (dE_c (μ := true) pe_int) (dA_cons (dE_c (μ := true) pe_int) (dA_cons (dE_c (μ := true) pe_int) (dA_cons (dE_c (μ := true) pe_int) (dA_nil (μ := true)))))))))) (nE_draw C__law_next (hr.mono (by omega)) (by rfl) (pv 0) (nA_cons (nE_pure (dE_c (μ := true) pe_int)) nA_nil)))))
  (nSs_cons (nS_asg (K := K) (p := .nm 7) (ps_set (i := 7) sc_law_world.nd rfl (.inl rfl) (nE_callTy c_tuple (by rfl) m_tuple (by decide +kernel) (nA_cons (nE_lc (K := K) (p := (.nm 8)) (pe_lc (own := [("_law_k", 8)]) (g := gP K (.nm 8)) rfl sc_law_world.nd (nI_pure (dI_ran1 (by rfl) m_range (dA_cons (dE_var (μ := true) (pv 5)) (dA_nil (μ := true))))) (blkOk_by (own := [("_law_k", 8)]) (N := ["_law_drawn", "_law_wide", "_law_old", "_law_size", "_law_kinds_here", "_law_many", "_law_sources", "_law_ways", "_law_k"]) (sc := defScope s_law_world) (by decide +kernel)) (fun _ _ _ _ _ => (pg_name (i := 8) sc_law_world.nd rfl (.inl rfl))) (fun _ _ _ _ _ => nTs_nil) (fun _ _ _ _ _ => (nE_draw C__law_way (hr.mono (by omega)) (by rfl) (pv 0) (nA_cons (nE_pure (dE_var (μ := true) (pv 3))) (nA_cons (nE_pure (dE_var (μ := true) (pv 4))) (nA_cons (nE_pure (dE_var (μ := true) (pv 2))) nA_nil))))))) nA_nil))))
  (nSs_one (nS_retL (ps_ret (dE_tup (dA_cons (dE_var (μ := true) (pv 3)) (dA_cons (dE_var (μ := true) (pv 4)) (dA_cons (dE_var (μ := true) (pv 6)) (dA_cons (dE_var (μ := true) (pv 7)) (dA_nil (μ := true)))))))))))))))), fun ds b Q l h => ?_⟩
  obtain ⟨⟨wide, old, rfl, w1, w6, o0, o20⟩, hb, q⟩ := h
  refine ⟨.int 1, rfl, wNext (m := wide) rfl rfl (by omega) (by omega) (by omega) fun v1 b1 v10 v11 h1 => ⟨_, rfl, [some .pool, some (.dat (.int wide)), some (.dat (.int old)), some (.dat (.int (1 + v1))), none, none, none, none, none], rfl, ?_⟩⟩
  refine ⟨rfl, .int 1, rfl, wNext (m := 4) rfl rfl (by decide) (by decide) (by omega) fun v2 b2 v20 v21 h2 => ⟨_, rfl, _, rfl, rfl, ⟨_, rfl, by omega, by omega⟩, by omega, fun d b3 hd h3 => ?_⟩⟩
  obtain ⟨m, ks, _, rfl, hk, hkf⟩ := hd
  refine ⟨[some .pool, some (.dat (.int wide)), some (.dat (.int old)), some (.dat (.int (1 + v1))), some (.dat (.tuple ks)), none, none, none, none], rfl, ?_⟩
  refine ⟨_, rfl, wNext (m := 6) rfl rfl (by decide) (by decide) (by omega) fun v4 b4 v40 v41 h4 => ?_⟩
  obtain ⟨x, ex, xs⟩ := lst6 (a := PyData.int 1) (b := .int 1) (c := .int 2) (d := .int 3) (e := .int 6) (f := .int 0) v40 v41
  obtain ⟨m1, rfl, m10, m16⟩ : ∃ m : Int, x = .int m ∧ 0 ≤ m ∧ m ≤ 6 := by
    rcases xs with rfl | rfl | rfl | rfl | rfl | rfl <;> exact ⟨_, rfl, by decide, by decide⟩
  refine ⟨_, ex, [some .pool, some (.dat (.int wide)), some (.dat (.int old)), some (.dat (.int (1 + v1))), some (.dat (.tuple ks)), some (.dat (.int m1)), none, none, none], rfl, ?_⟩
  refine ⟨rgD 0 m1.toNat, ev_itG (ds := [.int m1]) rfl (ran1_ok (by omega) (by omega)), ?_⟩
  have lm : (rgD 0 m1.toNat).length = m1.toNat := rgD_len _ _
  refine lcN_all 9 (SrcP (1 + v1) ks) (rgD 0 m1.toNat) b4 _ (by rw [lm]; omega) (fun x hx b Q hb q => ?_) (fun ss b5 ls hss h5 => ?_)
  · obtain ⟨i, _, rfl⟩ := List.mem_map.mp hx
    refine ⟨_, rfl, rfl, .int (1 + v1), rfl, .tuple ks, rfl, .int old, rfl, _, rfl, _, rfl, _, rfl, rfl, ⟨1 + v1, ks, old, rfl, hk, by omega, by omega, o0, o20⟩, hb, fun d n' ⟨_, _, _, e, pd⟩ hn => ?_⟩
    cases e
    exact q d n' pd hn
  rw [lm] at ls h5
  refine ⟨_, rfl, .tuple ss, rfl, [some .pool, some (.dat (.int wide)), some (.dat (.int old)), some (.dat (.int (1 + v1))), some (.dat (.tuple ks)), some (.dat (.int m1)), some (.dat (.tuple ss)), none, none], rfl, ?_⟩
  refine ⟨_, rfl, wNext (m := 6) rfl rfl (by decide) (by decide) (by omega) fun v6 b6 v60 v61 h6 => ?_⟩
  obtain ⟨y, ey, ys⟩ := lst6 (a := PyData.int 1) (b := .int 2) (c := .int 2) (d := .int 3) (e := .int 5) (f := .int 8) v60 v61
  obtain ⟨m2, rfl, m20, m28⟩ : ∃ m : Int, y = .int m ∧ 1 ≤ m ∧ m ≤ 8 := by
    rcases ys with rfl | rfl | rfl | rfl | rfl | rfl <;> exact ⟨_, rfl, by decide, by decide⟩
  refine ⟨_, ey, [some .pool, some (.dat (.int wide)), some (.dat (.int old)), some (.dat (.int (1 + v1))), some (.dat (.tuple ks)), some (.dat (.int m2)), some (.dat (.tuple ss)), none, none], rfl, ?_⟩
  refine ⟨rgD 0 m2.toNat, ev_itG (ds := [.int m2]) rfl (ran1_ok (by omega) (by omega)), ?_⟩
  have lm2 : (rgD 0 m2.toNat).length = m2.toNat := rgD_len _ _
  refine lcN_all 40 (WayP (1 + v1) ks) (rgD 0 m2.toNat) b6 _ (by rw [lm2]; omega) (fun x hx b Q hb q => ?_) (fun ws b7 lw hws h7 => ?_)
  · obtain ⟨i, _, rfl⟩ := List.mem_map.mp hx
    refine ⟨_, rfl, rfl, .int (1 + v1), rfl, .tuple ks, rfl, .int old, rfl, _, rfl, _, rfl, _, rfl, rfl, ⟨1 + v1, ks, old, rfl, hk, by omega, by omega, o0, o20⟩, hb, fun d n' ⟨_, _, _, e, pd⟩ hn => ?_⟩
    cases e
    exact q d n' pd hn
  rw [lm2] at lw h7
  refine ⟨_, rfl, .tuple ws, rfl, [some .pool, some (.dat (.int wide)), some (.dat (.int old)), some (.dat (.int (1 + v1))), some (.dat (.tuple ks)), some (.dat (.int m2)), some (.dat (.tuple ss)), some (.dat (.tuple ws)), none], rfl, ?_⟩
  refine ⟨_, rfl, ?_⟩
  exact q _ b7 ⟨1 + v1, ks, ss, ws, rfl, by omega, by omega, hk, hkf, by omega, hss, by omega, by omega, hws⟩ (by omega)
end
end Dl
namespace Dl
open PySem PySem.Spec PyProof.Rows L2 Rt
theorem all_map {α β : Type} {f : α → β} {Pc : α → Prop} : ∀ {l : List β}, (∀ x ∈ l, ∃ c, x = f c ∧ Pc c) → ∃ cs : List α, l = cs.map f ∧ ∀ c ∈ cs, Pc c
  | [], _ => ⟨[], rfl, fun c h => nomatch h⟩
  | b :: r, h => by
    obtain ⟨c, rfl, pc⟩ := h b List.mem_cons_self
    obtain ⟨cs, rfl, al⟩ := all_map (l := r) fun x hx => h x (List.mem_cons_of_mem _ hx)
    exact ⟨c :: cs, rfl, fun d hd => by
      rcases List.mem_cons.mp hd with e | e
      · rw [e]; exact pc
      · exact al d e⟩
theorem join0 : ∀ cs : List Nat, Txt.join ⟨#[]⟩ (cs.map fun c => (⟨#[c]⟩ : Str)) = ⟨cs.toArray⟩ := by
  intro cs
  rw [TL.join_eq]
  induction cs with
  | nil => rfl
  | cons c r ih =>
    cases r with
    | nil => rfl
    | cons d r =>
      show (⟨#[c]⟩ : Str) ++ ⟨#[]⟩ ++ Str.join ⟨#[]⟩ ((d :: r).map fun c => (⟨#[c]⟩ : Str)) = _
      rw [ih]
      show (⟨(#[c] ++ #[]) ++ (d :: r).toArray⟩ : Str) = ⟨(c :: d :: r).toArray⟩
      simp
theorem str_app (x y : Str) : (x ++ y).cps.toList = x.cps.toList ++ y.cps.toList := by
  show (x.cps ++ y.cps).toList = _
  rw [Array.toList_append]
theorem str_len (x : Str) : x.length = x.cps.toList.length := by
  show x.cps.size = _
  rw [Array.length_toList]
structure NameS (z : Str) : Prop where
  lo : 1 ≤ z.length
  hi : z.length ≤ 8
  all : ∀ c ∈ z.cps.toList, c ∈ LET
theorem NameS.is {z : Str} (h : NameS z) : isName (.str z) = true := by
  unfold isName
  have h1 := h.lo
  have h2 := h.hi
  rw [Bool.and_eq_true_iff, Bool.and_eq_true_iff]
  exact ⟨⟨decide_eq_true (by omega), decide_eq_true (by omega)⟩, List.all_eq_true.mpr fun c hc => decide_eq_true (h.all c hc)⟩
def Kq (Kf : Nat → Str → Prop) (i : Nat) (acc : List V) : Prop := acc.length = i ∧ ∀ j, j < i → ∃ z, acc[j]? = some (V.str z) ∧ Kf j z
theorem Kq.nil {Kf : Nat → Str → Prop} : Kq Kf 0 [] := ⟨rfl, fun j h => absurd h (by omega)⟩
theorem Kq.step {Kf : Nat → Str → Prop} {i : Nat} {acc : List V} {z : Str} (h : Kq Kf i acc) (hz : Kf i z) : Kq Kf (i + 1) (acc ++ [V.str z]) := by
  have hl := h.1
  refine ⟨by rw [List.length_append, hl]; rfl, fun j hj => ?_⟩
  by_cases e : j < i
  · obtain ⟨y, ey, hy⟩ := h.2 j e
    exact ⟨y, by rw [List.getElem?_append_left (by omega)]; exact ey, hy⟩
  · have : j = i := by omega
    subst this
    refine ⟨z, ?_, hz⟩
    rw [List.getElem?_append_right (by omega), hl, Nat.sub_self]
    rfl
theorem Kq.nodup {Kf : Nat → Str → Prop} {n : Nat} {zs : List Str} (h : Kq Kf n (zs.map V.str)) (inj : ∀ i j z, i < n → j < n → Kf i z → Kf j z → i = j) : zs.Nodup := by
  have hl : zs.length = n := by
    have := h.1
    rwa [List.length_map] at this
  have at' : ∀ j, j < n → ∃ z, zs[j]? = some z ∧ Kf j z := fun j hj => by
    obtain ⟨z, ez, kz⟩ := h.2 j hj
    rw [List.getElem?_map] at ez
    cases e : zs[j]? with
    | none => rw [e] at ez; cases ez
    | some y =>
      rw [e] at ez
      cases ez
      exact ⟨_, rfl, kz⟩
  rw [List.Nodup, List.pairwise_iff_getElem]
  intro i j hi hj hij e
  obtain ⟨y, ey, ky⟩ := at' i (by omega)
  obtain ⟨z, ez, kz⟩ := at' j (by omega)
  rw [List.getElem?_eq_getElem hi] at ey
  rw [List.getElem?_eq_getElem hj] at ez
  cases ey
  cases ez
  rw [e] at ky
  have := inj i j _ (by omega) (by omega) ky kz
  omega
theorem cps_tri : ∀ {a b : List Nat}, ltCps a b = false → ltCps b a = false → a = b
  | [], [], _, _ => rfl
  | [], _ :: _, h, _ => nomatch h
  | _ :: _, [], _, h => nomatch h
  | a :: r, b :: t, h1, h2 => by
    have h1 := Bool.or_eq_false_iff.mp (show (decide (a < b) || (a == b && ltCps r t)) = false from h1)
    have h2 := Bool.or_eq_false_iff.mp (show (decide (b < a) || (b == a && ltCps t r)) = false from h2)
    have n1 := of_decide_eq_false h1.1
    have n2 := of_decide_eq_false h2.1
    have e : a = b := by omega
    subst e
    have e1 : ltCps r t = false := by simpa using h1.2
    have e2 : ltCps t r = false := by simpa using h2.2
    rw [cps_tri e1 e2]
theorem str_ext {a b : Str} (h : a.cps.toList = b.cps.toList) : a = b := by
  cases a with
  | mk x => cases b with
    | mk y => congr; exact Array.toList_inj.mp h
theorem ris_next : ∀ {ys : List Str} {p : Str}, risingS p ys = true → (p :: ys).Nodup → ∀ (j : Nat) a b, (p :: ys)[j]? = some a → (p :: ys)[j + 1]? = some b → a.cps.toList < b.cps.toList
  | [], p, _, _, j, a, b, _, e => by
    have := (List.getElem?_eq_some_iff.mp e).1
    simp at this
  | y :: ys, p, h, nd, j, a, b, ea, eb => by
    have h := Bool.and_eq_true_iff.mp (show (!ltCps y.cps.toList p.cps.toList && risingS y ys) = true from h)
    cases j with
    | zero =>
      cases ea
      cases eb
      cases z : ltCps p.cps.toList y.cps.toList with
      | true => rw [ltCps_eq] at z; exact of_decide_eq_true z
      | false =>
        have e := str_ext (cps_tri z (by simpa using h.1))
        subst e
        exact absurd List.mem_cons_self (List.nodup_cons.mp nd).1
    | succ j => exact ris_next h.2 (List.nodup_cons.mp nd).2 j a b ea eb
theorem firstG_nil {g : Nat → D → Option D} : ∀ (xs : List D) (k : Nat), (∀ (j : Nat) x, xs[j]? = some x → g (k + j) x = none) → firstG g k xs = none
  | [], _, _ => rfl
  | x :: xs, k, h => by
    have e0 : g k x = none := h 0 x rfl
    rw [firstG_no e0]
    exact firstG_nil xs (k + 1) fun j y e => by
      rw [show k + 1 + j = k + (j + 1) by omega]
      exact h (j + 1) y e
theorem kinds_none {ys : List Str} (l1 : 1 ≤ ys.length) (l4 : ys.length ≤ 4) (hn : ∀ k ∈ ys, NameS k) (so : sortedS ys = true) (nd : ys.Nodup) : kindsF (.tuple (ys.map PyData.str)) = .none := by
  have h0 : isRow 1 4 (.tuple (ys.map PyData.str)) = true := by
    simp [isRow]
    omega
  show (if isRow 1 4 (.tuple (ys.map PyData.str)) = false then flt [1] "kinds" else orN (firstG (gK (ys.map PyData.str)) 0 (ys.map PyData.str))) = .none
  rw [h0, if_neg (by decide), firstG_nil _ 0 fun j x e => ?_]
  · rfl
  · rw [List.getElem?_map] at e
    cases ez : ys[j]? with
    | none => rw [ez] at e; cases e
    | some z =>
      rw [ez] at e
      cases e
      have nz := (hn z (List.mem_of_getElem? ez)).is
      unfold gK
      have : badK (ys.map PyData.str) (0 + j) (.str z) = false := by
        unfold badK
        rw [nz, Nat.zero_add]
        cases j with
        | zero => rfl
        | succ j =>
          have hj : j < ys.length := by
            have := (List.getElem?_eq_some_iff.mp ez).1
            omega
          rw [List.getElem?_map, show j + 1 - 1 = j by omega, List.getElem?_eq_getElem hj]
          have lt : (ys[j]).cps.toList < z.cps.toList := by
            cases ys with
            | nil => cases ez
            | cons p r => exact ris_next (show risingS p r = true from so) nd j _ z (List.getElem?_eq_getElem hj) ez
          simp [ltS, lt]
      rw [this]
      rfl
section
variable {P : Program} {w : World} {K : PySem.W.Frag} {mg : Str → Option Value} {base : Heap}
def spKindsF : Sp := fun vs H Q _ => ∃ (g : Gd) (B : Nat) (m : Int), vs = [.ref g.d, .int m] ∧ Fu g B H ∧ 10 ≤ B ∧ 1 ≤ m ∧ m ≤ 4 ∧
  ∀ p (ks : List Str) H' H6, ks.length = m.toNat → (∀ k ∈ ks, NameS k) → sortedS ks = true → ks.Nodup → TupF H' p (ks.map V.str) → Kp g H H6 → Fu g 0 H6 → H6 p = none → Fu g (B - 10) H' → Kp g H H' → Q (.ref p) H'
theorem ok_kindsF' {f : Addr} {fd : FuncData} (F : Fun K "_law_kinds" "_law_kinds" s_law_kinds f fd) (m_range : mg "range" = none) (m_sorted : mg "sorted" = none) (m_tuple : mg "tuple" = none)
    (C__law_next : Cl P w K mg base 1 "_law_next" ["_law_drawn", "_law_below"] spNext) (C__law_one : Cl P w K mg base 2 "_law_one" ["_law_drawn", "_law_wares"] (spOne K)) :
    FnOk P w K mg base CX0 3 f fd ["_law_drawn", "_law_many"] spKindsF := by
  refine F.ok sc_law_kinds (fun vs H Q E h => ?_) (fun cdv A outer s H vs Q E hr h => ?_)
  · obtain ⟨g, B, m, rfl, _⟩ := h
    rfl
  · obtain ⟨g, B, m, rfl, hF, hB, hm1, hm4, q⟩ := h
    refine ⟨_, (pss_cons (ps_set (i := 2) sc_law_kinds.nd rfl (.inr rfl) (pe_join pe_str (pe_lc (own := [("_law_k", 6)]) (g := (gName 6)) (tt := tYes) rfl sc_law_kinds.nd (pi_range1 (by rfl) m_range (pa_cons (pe_cl C__law_next (hr.mono (by omega)) (by rfl) (pa_cons (pv 0) (pa_cons pe_int pa_nil))) pa_nil)) (blkOk_by (own := [("_law_k", 6)]) (N := ["_law_drawn", "_law_many", "_law_stem", "_law_first", "_law_way_here", "_law_found", "_law_k"]) (sc := defScope s_law_kinds) (by decide +kernel)) (fun _ _ _ _ _ => (pg_name (i := 6) sc_law_kinds.nd rfl (.inl rfl))) (fun _ _ _ _ _ => pts_nil) (fun _ _ _ _ _ => (pe_cl C__law_one (hr.mono (by omega)) (by rfl) (pa_cons (pv 0) (pa_cons pe_str pa_nil)))))))
  (pss_cons (ps_set (i := 3) sc_law_kinds.nd rfl (.inr rfl) (pe_cl C__law_next (hr.mono (by omega)) (by rfl) (pa_cons (pv 0) (pa_cons pe_int pa_nil))))
  (pss_cons (ps_set (i := 4) sc_law_kinds.nd rfl (.inl rfl) (pe_cl C__law_next (hr.mono (by omega)) (by rfl) (pa_cons (pv 0) (pa_cons pe_int pa_nil))))
  (pss_cons (ps_setLc (i := 5) (own := [("_law_k", 6)]) (g := (gName 6)) (tt := tYes) rfl sc_law_kinds.nd rfl rfl (sw_true rfl rfl rfl (by decide +kernel)) (pi_range1 (by rfl) m_range (pa_cons (pv 1) pa_nil)) (blkOk_by (own := [("_law_k", 6)]) (N := ["_law_drawn", "_law_many", "_law_stem", "_law_first", "_law_way_here", "_law_found", "_law_k"]) (sc := defScope s_law_kinds) (by decide +kernel)) (fun _ _ _ _ _ => (pg_name (i := 6) sc_law_kinds.nd rfl (.inl rfl))) (fun _ _ _ _ _ => pts_nil) (fun _ _ _ _ _ => (pe_op op_add_str (pv 2) (pe_ix ix_str pe_str (pe_op op_addL (pv 3) (pv 6)) (fun _ _ => rfl)))))
  (pss_cons (ps_if (pt_cmpR op_eq (pv 4) pe_int (nomark _))
    (pss_one (ps_setLc (i := 5) (own := [("_law_k", 6)]) (g := (gName 6)) (tt := tYes) rfl sc_law_kinds.nd rfl rfl (sw_true rfl rfl rfl (by decide +kernel)) (pi_range1 (by rfl) m_range (pa_cons (pv 1) pa_nil)) (blkOk_by (own := [("_law_k", 6)]) (N := ["_law_drawn", "_law_many", "_law_stem", "_law_first", "_law_way_here", "_law_found", "_law_k"]) (sc := defScope s_law_kinds) (by decide +kernel)) (fun _ _ _ _ _ => (pg_name (i := 6) sc_law_kinds.nd rfl (.inl rfl))) (fun _ _ _ _ _ => pts_nil) (fun _ _ _ _ _ => (pe_slice sl_str (pe_op op_add_str (pe_op op_repS pe_str (pe_op op_addL (pv 6) pe_int)) (pv 2)) po_none (po_some (pe_op op_addL (pe_op op_addL (pe_op op_subL pe_int (pv 1)) (pv 6)) pe_int))))))
    pss_nil)
  (pss_one (ps_ret (pe_callTy call_tupF (by rfl) m_tuple (by decide +kernel) (pa_cons (pe_callB cr_sortedS (by rfl) m_sorted (by decide +kernel) (pa_cons (pv 5) pa_nil)) pa_nil))))))))), ?_⟩
    -- the stem
    refine ⟨⟨_, rfl⟩, .ref g.d, rfl, g, B, 8, rfl, hF, by omega, by decide, by decide, fun n H1 n0 n8 F1 K1 => ⟨n, rfl, by omega, by omega, fun D nD => ?_⟩⟩
    refine lcR (g := g) (B := B - 1) 1 (fun _ y => ∃ c : Nat, y = V.str ⟨#[c]⟩ ∧ c ∈ LET) (fun i acc => acc.length = i) nD F1 (by omega) (by omega) (fun _ _ _ _ h => h) rfl (fun i H2 B' hi F2 hB' K2 Qk Qs qk qs => ?_) (fun H2 acc F2 K2 eD el pl al => ?_)
    · refine ⟨rfl, .ref g.d, rfl, g, B', _, rfl, F2, hB', .inr (.inr ⟨_, rfl, by decide, by decide, fun c H3 hc F3 K3 => ?_⟩)⟩
      exact qk _ _ F3 K3 ⟨c, rfl, hc⟩ (fun acc h => by rw [List.length_append, h]; rfl)
    obtain ⟨cs, rfl, hcs⟩ := all_map al
    rw [List.length_map] at pl
    refine ⟨_, D, cs.map (fun c => (⟨#[c]⟩ : Str)), rfl, rfl, .inl (SqL.of (by rw [eD, List.map_map]; rfl)), ?_, ?_⟩
    · show ((cs.map (fun c => (⟨#[c]⟩ : Str))).map (·.length)).sum + (cs.map (fun c => (⟨#[c]⟩ : Str))).length * 0 ≤ 16777216
      rw [List.map_map, show ((fun x : Str => x.length) ∘ fun c => (⟨#[c]⟩ : Str)) = fun _ => 1 from rfl, List.map_const', List.sum_replicate_nat]
      omega
    have hst : (Txt.join (Str.ofString "") (cs.map fun c => (⟨#[c]⟩ : Str))).length ≤ 7 := by
      rw [show Str.ofString "" = ⟨#[]⟩ from rfl, join0]
      show cs.toArray.size ≤ 7
      rw [List.size_toArray]
      omega
    have hsc : ∀ c ∈ (Txt.join (Str.ofString "") (cs.map fun c => (⟨#[c]⟩ : Str))).cps.toList, c ∈ LET := by
      rw [show Str.ofString "" = ⟨#[]⟩ from rfl, join0]
      exact hcs
    generalize Txt.join (Str.ofString "") (cs.map fun c => (⟨#[c]⟩ : Str)) = stem at hst hsc ⊢
    -- first, way_here
    refine ⟨.ref g.d, rfl, g, _, 23, rfl, F2, by omega, by decide, by decide, fun fi H3 fi0 fi1 F3 K3 => ?_⟩
    refine ⟨.ref g.d, rfl, g, _, 3, rfl, F3, by omega, by decide, by decide, fun wh H4 wh0 wh1 F4 K4 => ?_⟩
    have K14 : Kp g H H4 := ((K1.trans K2).trans K3).trans K4
    -- found
    refine ⟨.int m, rfl, m, rfl, by omega, by omega, fun D2 nD2 => ?_⟩
    refine lcR (g := g) 0 (fun _ y => ∃ z : Str, y = V.str z ∧ NameS z) (Kq fun j z => ∃ c, LET[(fi + (j : Nat)).toNat]? = some c ∧ z.cps.toList = stem.cps.toList ++ [c]) nD2 F4 (by omega) (by omega) (fun _ _ _ _ h => h) Kq.nil (fun i H5 B' hi F5 hB' K5 Qk Qs qk qs => ?_) (fun H5 acc5 F5 K5 eD5 el5 pl5 al5 => ?_)
    · refine ⟨rfl, .str stem, rfl, .int fi, rfl, .int (0 + i), rfl, fi, 0 + i, rfl, rfl, fun z ez => ?_⟩
      obtain ⟨c, hc, hcm, hcx⟩ := atI_in (xs := (Str.ofString "abcdefghijklmnopqrstuvwxyz").cps.toList) (i := z) (by omega) (by
        have : (Str.ofString "abcdefghijklmnopqrstuvwxyz").cps.toList.length = 26 := by decide
        rw [this]
        omega)
      refine ⟨_, z, c, rfl, rfl, by decide, hc, stem, _, rfl, rfl, ?_, ?_⟩
      · exact sz (by
          show stem.length + 1 ≤ 100000
          omega)
      · have e1 : (stem ++ (⟨#[c]⟩ : Str)).cps.toList = stem.cps.toList ++ [c] := str_app _ _
        have e2 : (stem ++ (⟨#[c]⟩ : Str)).length = stem.length + 1 := by rw [str_len, e1, List.length_append, ← str_len]; rfl
        refine qk _ _ F5 (Kp.refl _ _) ⟨_, rfl, ⟨by omega, by omega, fun d hd => ?_⟩⟩ (fun acc h => h.step ⟨c, by rw [show (fi + (i : Nat)).toNat = z.toNat by omega]; exact hcx, e1⟩)
        rw [e1] at hd
        rcases List.mem_append.mp hd with h | h
        · exact hsc d h
        · rw [List.mem_singleton.mp h]; exact hcm
    obtain ⟨zs, rfl, hzs⟩ := all_map al5
    have fin : ∀ (zs : List Str) (D2 : Addr) (H5 : Hp), zs.length = m.toNat → (∀ k ∈ zs, NameS k) → zs.Nodup → H5 D2 = some (.lst (zs.map V.str)) → Fu g (B - 10) H5 → Kp g H H5 → rSortedS K [.ref D2] H5 fun v H6 => rTupF K [v] H6 Q := by
      intro zs D2 H5 lz hz nd eD5 F5 K5
      refine ⟨D2, zs, rfl, SqL.of eD5, by omega, fun ys p perm so np => ⟨p, _, rfl, SqL.of upd_same, fun l o H' nl od eH' => ?_⟩⟩
      subst eH'
      have F6 := F5.new (o := .lst (ys.map V.str)) np
      have K6 : Kp g H (upd H5 p (.lst (ys.map V.str))) := K5.trans (Kp.new np)
      exact q l ys _ _ (by rw [perm.length_eq]; exact lz) (fun k hk => hz k (perm.mem_iff.mp hk)) so (perm.nodup_iff.mpr nd) ⟨o, upd_same, od⟩ K6 (F6.mono (by omega)) nl (F6.new nl) (K6.trans (Kp.new nl))
    have nd5 : zs.Nodup := pl5.nodup fun i j z hi hj ⟨c, hc, ec⟩ ⟨c', hc', ec'⟩ => by
      rw [ec] at ec'
      have e : c = c' := by simpa using ec'
      subst e
      have nl : LET.Nodup := by decide +kernel
      obtain ⟨l1, g1⟩ := List.getElem?_eq_some_iff.mp hc
      obtain ⟨l2, g2⟩ := List.getElem?_eq_some_iff.mp hc'
      rw [List.Nodup, List.pairwise_iff_getElem] at nl
      rcases Nat.lt_trichotomy (fi + (i : Nat)).toNat (fi + (j : Nat)).toNat with h | h | h
      · exact (nl _ _ l1 l2 h (g1.trans g2.symm)).elim
      · omega
      · exact (nl _ _ l2 l1 h (g2.trans g1.symm)).elim
    have pl5 := pl5.1
    rw [List.length_map] at pl5
    -- if way_here == 0
    refine ⟨.int wh, rfl, rfl, _, rfl, ite2 (fun e => ?_) (fun e => ?_)⟩
    · refine ⟨.int m, rfl, m, rfl, by omega, by omega, fun D3 nD3 => ?_⟩
      refine lcR (g := g) 0 (fun _ y => ∃ z : Str, y = V.str z ∧ NameS z) (Kq fun j z => z.length = j + min (1 + stem.length) (9 - m.toNat)) nD3 F5 (by omega) (by omega) (fun _ _ _ _ h => h) Kq.nil (fun i H6 B' hi F6 hB' K6 Qk Qs qk qs => ?_) (fun H6 acc6 F6 K6 eD6 el6 pl6 al6 => ?_)
      · refine ⟨rfl, .int (0 + i), rfl, 0 + i, 1, rfl, rfl, fun z ez => ⟨_, z, rfl, rfl, by omega, by omega, by decide, by decide, fun r hrl er => ⟨.str stem, rfl, r, stem, rfl, rfl, ?_, ?_⟩⟩⟩
        · have er : r.length = z.toNat * 1 := er
          exact sz (by omega)
        · refine ⟨.int m, rfl, 8, m, rfl, rfl, fun a ea => ⟨.int (0 + i), rfl, a, 0 + i, rfl, rfl, fun b eb => ⟨b, 1, rfl, rfl, fun c ec => ⟨c, rfl, _, rfl, ?_, ?_⟩⟩⟩⟩
          · have er : r.length = z.toNat * 1 := er
            have : (r ++ stem).length = r.length + stem.length := by rw [str_len, str_app, List.length_append, ← str_len, ← str_len]
            rw [this]
            exact sz (by omega)
          · have er : r.length = z.toNat * 1 := er
            have er2 : (r ++ stem).length = r.length + stem.length := by rw [str_len, str_app, List.length_append, ← str_len, ← str_len]
            have hrs : ∀ d ∈ (r ++ stem).cps.toList, d ∈ LET := fun d hd => by
              rw [str_app] at hd
              rcases List.mem_append.mp hd with h | h
              · rw [hrl] at h
                obtain ⟨l, hl, hd⟩ := List.mem_flatten.mp h
                rw [(List.mem_replicate.mp hl).2] at hd
                have : ∀ d ∈ (Str.ofString "m").cps.toList, d ∈ LET := by decide +kernel
                exact this d hd
              · exact hsc d h
            have c0 : 0 ≤ c := by omega
            obtain ⟨cn, rfl⟩ := Int.eq_ofNat_of_zero_le c0
            have cut : (cutS (r ++ stem) none (some (cn : Int))).cps.toList = (r ++ stem).cps.toList.take (min cn (r ++ stem).length) := by
              unfold cutS
              rw [HT.sIx_none, HT.sIx_nat, List.drop_zero, Nat.sub_zero]
            have cl : (cutS (r ++ stem) none (some (cn : Int))).length = min cn (r ++ stem).length := by
              rw [str_len, cut, List.length_take, ← str_len]
              omega
            have hi' : i < m.toNat := hi
            exact qk _ _ F6 (Kp.refl _ _) ⟨_, rfl, ⟨by rw [cl]; omega, by rw [cl]; omega, fun d hd => hrs d (by rw [cut] at hd; exact List.mem_of_mem_take hd)⟩⟩ (fun acc h => h.step (by rw [cl]; omega))
      obtain ⟨z6, rfl, hz6⟩ := all_map al6
      have nd6 : z6.Nodup := pl6.nodup fun i j z hi hj a b => by omega
      have pl6 := pl6.1
      rw [List.length_map] at pl6
      exact ⟨.ref D3, rfl, fin z6 D3 H6 pl6 hz6 nd6 eD6 (F6.mono (by omega)) ((K14.trans K5).trans K6)⟩
    · exact ⟨.ref D2, rfl, fin zs D2 H5 pl5 hzs nd5 eD5 (F5.mono (by omega)) (K14.trans K5)⟩
theorem ok_kinds {f : Addr} {fd : FuncData} {k : Nat} {ps : List Str} (F : FnOk P w K mg base CX0 k f fd ps spKindsF) : FnOk P w K mg base CX0 k f fd ps (spN 1 gKinds) := F.wk fun vs H Q E h => by
  obtain ⟨g, M, ws, ds, n, rfl, pl, dm, iv, r, l, ⟨m, rfl, m1, m4⟩, hn, q⟩ := h
  match ws, r with
  | [_], .cons (.int _) .nil =>
    refine ⟨g, n, m, rfl, iv, hn, m1, m4, fun p ks H' H6 lk hk so nd t K6 F6 np F' K' => ?_⟩
    have nM : ¬ M p := fun mp => by
      cases e : H p with
      | none => exact dm p mp e
      | some o =>
        by_cases ow : g.own p
        · exact g.alive F6 ow np
        · rw [kp_own K6 p o ow e] at np; cases np
    have lk' : ks.length ≤ 4 := by omega
    refine q (.tuple (ks.map PyData.str)) (n - 10) ⟨m, _, rfl, rfl, ⟨by rw [List.length_map]; omega, by rw [List.length_map]; omega, fun k hk' => ?_⟩, kinds_none (by omega) (by omega) hk so nd⟩ (by omega) (.ref p) H' (kp_own K') F' (.tup t nM (by rw [List.length_map]; exact sz (by omega)) ?_)
    · obtain ⟨z, hz, rfl⟩ := List.mem_map.mp hk'
      exact (hk z hz).is
    · have : ∀ ks : List Str, (∀ k ∈ ks, NameS k) → RpAll M H' (ks.map V.str) (ks.map PyData.str) := by
        intro ks
        induction ks with
        | nil => intro _; exact .nil
        | cons k ks ih => exact fun h => .cons (.str k (sz (by have := (h k (by simp)).hi; omega))) (ih fun z hz => h z (by simp [hz]))
      exact this ks hk
end
end Dl
namespace Dl
open PySem PySem.Spec PyProof.Rows L2 Rt
/-! ### what is drawn is a world -/
theorem firstF_nil {pre : List D} {f : D → D} : ∀ (xs : List D) (k : Nat), (∀ x ∈ xs, f x = .none) → firstF pre f k xs = .none
  | [], _, _ => rfl
  | x :: xs, k, h => by rw [firstF_none (h x (by simp))]; exact firstF_nil xs (k + 1) fun y hy => h y (by simp [hy])
theorem kindIn_mem {ks : List D} {k : D} (hm : k ∈ ks) (hn : isName k = true) : kindIn ks k = true := by
  obtain ⟨z, rfl⟩ := isName_str hn
  exact List.any_eq_true.mpr ⟨_, hm, beq_self_eq_true z⟩
theorem from_int {lo hi i : Int} (h0 : lo ≤ i) (h1 : i ≤ hi) : isFrom lo hi (.int i) = true := by
  simp [isFrom]
  omega
theorem src_none {n : Int} {ks : List D} {d : D} (h : SrcP n ks d) (hk : ∀ k ∈ ks, isName k = true) : srcF n ks d = .none := by
  obtain ⟨k, a, pl, s, m, rfl, km, a0, a1, p0, p1, s0, s1, m0, m1⟩ := h
  simp only [srcF, kindIn_mem km (hk k km), from_int a0 a1, from_int p0 (show pl ≤ n - 1 by omega), from_int s0 s1, from_int m0 m1]
  rfl
theorem part_none {ks : List D} {d : D} (h : PrtP ks d) (hk : ∀ k ∈ ks, isName k = true) : partF ks d = .none := by
  obtain ⟨k, l, g, rfl, km, l0, lg, g1⟩ := h
  simp only [partF, kindIn_mem km (hk k km), from_int l0 (show l ≤ 20 by omega), from_int lg g1]
  rfl
theorem ints_map : ∀ (ns : List Int), intsD (ns.map PyData.int) = some ns
  | [] => rfl
  | n :: ns => by
    show (intsD (ns.map PyData.int)).map _ = _
    rw [ints_map ns]
    rfl
theorem ris_pw : ∀ {ns : List Int}, ns.Pairwise (· < ·) → ris ns = true
  | [], _ => rfl
  | [a], _ => rfl
  | a :: b :: r, h => by
    have h1 := List.pairwise_cons.mp h
    have ih := ris_pw h1.2
    show ((a :: b :: r).zip ((a :: b :: r).drop 1)).all _ = true
    show (decide (a < b) && ((b :: r).zip r).all fun p => decide (p.1 < p.2)) = true
    rw [Bool.and_eq_true_iff]
    exact ⟨decide_eq_true (h1.1 b (by simp)), ih⟩
theorem hours_ok {n : Int} {hs : List Int} (n1 : 1 ≤ n) (h : hs.Sublist ((List.range n.toNat).map fun (i : Nat) => (0 : Int) + i)) : hoursOk n (.tuple (hs.map PyData.int)) = true ∧ hs.length ≤ n.toNat ∧ ∀ x ∈ hs, 0 ≤ x ∧ x ≤ n - 1 := by
  have hl : hs.length ≤ n.toNat := by
    have := h.length_le
    rwa [List.length_map, List.length_range] at this
  have hb : ∀ x ∈ hs, 0 ≤ x ∧ x ≤ n - 1 := fun x hx => by
    obtain ⟨i, hi, rfl⟩ := List.mem_map.mp (h.subset hx)
    have := List.mem_range.mp hi
    omega
  refine ⟨?_, hl, hb⟩
  have pw : ((List.range n.toNat).map fun (i : Nat) => (0 : Int) + i).Pairwise (· < ·) := by
    rw [List.pairwise_map]
    exact List.pairwise_lt_range.imp fun h => by omega
  have hr := ris_pw (pw.sublist h)
  have h1 : isRow 0 n (.tuple (hs.map PyData.int)) = true := by
    simp [isRow]
    omega
  have h2 : (hs.map PyData.int).all (isFrom 0 (n - 1)) = true := by
    rw [List.all_eq_true]
    intro x hx
    obtain ⟨i, hi, rfl⟩ := List.mem_map.mp hx
    exact from_int (hb i hi).1 (hb i hi).2
  simp only [hoursOk, h1, h2, ints_map, hr, Bool.and_self]
theorem way_none {n : Int} {ks : List D} {d : D} (n1 : 1 ≤ n) (h : WayP n ks d) (hk : ∀ k ∈ ks, isName k = true) : wayF n ks d = .none := by
  obtain ⟨k, ps, kp, hs, wt, rfl, km, p1, p3, hp, hkp, hhs, w1, w6⟩ := h
  have ep : partsF ks (.tuple ps) = .none := by
    have h0 : isRow 1 3 (.tuple ps) = true := by
      simp [isRow]
      omega
    simp only [partsF, h0]
    exact firstF_nil _ _ fun x hx => part_none (hp x hx) hk
  have ek : keepsOk kp = true := by
    rcases hkp with rfl | rfl <;> decide +kernel
  simp only [wayF, kindIn_mem km (hk k km), ep, ek, (hours_ok n1 hhs).1, from_int w1 w6]
  rfl
theorem world_none {d : D} (h : WorldP d) : worldF d = .none := by
  obtain ⟨n, ks, ss, ws, rfl, n1, n6, hk, hkf, s6, hss, w1, w8, hws⟩ := h.ex
  have h1 : isFrom 1 6 (.int n) = true := from_int n1 n6
  have es : srcsF n ks (.tuple ss) = .none := by
    have h0 : isRow 0 6 (.tuple ss) = true := by
      simp [isRow]
      omega
    simp only [srcsF, h0]
    exact firstF_nil _ _ fun x hx => src_none (hss x hx) hk.2.2
  have ew : waysF n ks (.tuple ws) = .none := by
    have h0 : isRow 0 8 (.tuple ws) = true := by
      simp [isRow]
      omega
    simp only [waysF, h0]
    exact firstF_nil _ _ fun x hx => way_none n1 (hws x hx) hk.2.2
  simp only [worldF, h1, hkf, es, ew]
  rfl
/-! ### it is neither deep nor long -/
theorem wSmall {i : Int} (h : i.natAbs < 2 ^ 20) : (PyData.int i).weight ≤ 20 := by
  show (if i == 0 then 0 else i.natAbs.log2 + 1) ≤ 20
  split
  · omega
  · by_cases z : i.natAbs = 0
    · rw [z]; decide
    · have := (Nat.log2_lt z).mpr h
      omega
/-- a leaf of a drawn world -/
def Lf (d : D) : Prop := Bd 0 1 d ∧ d.weight ≤ 20
theorem lf_int {i : Int} (h0 : -1000000 ≤ i) (h1 : i ≤ 1000000) : Lf (.int i) := ⟨by show i.natAbs ≤ 10 ^ 29 + 100 * 0; omega, wSmall (by omega)⟩
theorem lf_name {k : D} (h : isName k = true) : Lf k := by
  obtain ⟨z, rfl⟩ := isName_str h
  have h := Bool.and_eq_true_iff.mp (show (decide (1 ≤ (z.length : Int)) && decide ((z.length : Int) ≤ 8) && z.cps.toList.all fun c => decide (c ∈ LET)) = true from h)
  have h8 := of_decide_eq_true (Bool.and_eq_true_iff.mp h.1).2
  have hl := List.all_eq_true.mp h.2
  have lt : ∀ c ∈ LET, c < 1114112 := by decide +kernel
  exact ⟨⟨strOk_iff.mpr fun c hc => lt c (of_decide_eq_true (hl c hc)), by omega⟩, by show z.length ≤ 20; omega⟩
theorem lf_S (x : String) (h1 : PyData.strOk (Str.ofString x) = true := by decide +kernel) (h2 : (Str.ofString x).length ≤ 20 := by decide +kernel) : Lf (S x) := ⟨⟨h1, h2⟩, h2⟩
/-- a tuple of such -/
theorem bd_tup {m n c l : Nat} {ds : List D} (hl : ds.length ≤ l) (l10 : l ≤ 10) (h : ∀ d ∈ ds, Bd m n d ∧ d.weight ≤ c) : Bd m (n + 1) (.tuple ds) ∧ (PyData.tuple ds).weight ≤ l * (c + 1) :=
  ⟨⟨by omega, fun d hd => (h d hd).1⟩, Nat.le_trans (wAll_le fun d hd => (h d hd).2) (Nat.mul_le_mul_right _ hl)⟩
theorem src_bd {n : Int} {ks : List D} {d : D} (h : SrcP n ks d) (n6 : n ≤ 6) (hk : ∀ k ∈ ks, isName k = true) : Bd 0 2 d ∧ d.weight ≤ 105 := by
  obtain ⟨k, a, pl, s, m, rfl, km, a0, a1, p0, p1, s0, s1, m0, m1⟩ := h
  refine bd_tup (l := 5) (c := 20) (by simp) (by decide) fun d hd => ?_
  simp only [List.mem_cons, List.not_mem_nil, or_false] at hd
  rcases hd with rfl | rfl | rfl | rfl | rfl
  · exact lf_name (hk _ km)
  · exact lf_int (by omega) (by omega)
  · exact lf_int (by omega) (by omega)
  · exact lf_int (by omega) (by omega)
  · exact lf_int (by omega) (by omega)
theorem part_bd {ks : List D} {d : D} (h : PrtP ks d) (hk : ∀ k ∈ ks, isName k = true) : Bd 0 2 d ∧ d.weight ≤ 63 := by
  obtain ⟨k, l, g, rfl, km, l0, lg, g1⟩ := h
  refine bd_tup (l := 3) (c := 20) (by simp) (by decide) fun d hd => ?_
  simp only [List.mem_cons, List.not_mem_nil, or_false] at hd
  rcases hd with rfl | rfl | rfl
  · exact lf_name (hk _ km)
  · exact lf_int (by omega) (by omega)
  · exact lf_int (by omega) (by omega)
theorem way_bd {n : Int} {ks : List D} {d : D} (n1 : 1 ≤ n) (n6 : n ≤ 6) (h : WayP n ks d) (hk : ∀ k ∈ ks, isName k = true) : Bd 0 4 d ∧ d.weight ≤ 965 := by
  obtain ⟨k, ps, kp, hs, wt, rfl, km, p1, p3, hp, hkp, hhs, w1, w6⟩ := h
  have hh := hours_ok n1 hhs
  have up : ∀ {d : D}, Lf d → Bd 0 3 d ∧ d.weight ≤ 192 := fun h => ⟨h.1.up (Nat.le_refl _) (by decide), Nat.le_trans h.2 (by decide)⟩
  refine bd_tup (l := 5) (c := 192) (by simp) (by decide) fun d hd => ?_
  simp only [List.mem_cons, List.not_mem_nil, or_false] at hd
  rcases hd with rfl | rfl | rfl | rfl | rfl
  · exact up (lf_name (hk _ km))
  · exact bd_tup (l := 3) (c := 63) p3 (by decide) fun d hd => part_bd (hp d hd) hk
  · rcases hkp with rfl | rfl
    · exact up (lf_S "oldest")
    · exact up (lf_S "youngest")
  · have := bd_tup (m := 0) (n := 1) (l := 6) (c := 20) (ds := hs.map PyData.int) (by rw [List.length_map]; have := hh.2.1; omega) (by decide) fun d hd => by
      obtain ⟨i, hi, rfl⟩ := List.mem_map.mp hd
      have := hh.2.2 i hi
      exact lf_int (by omega) (by omega)
    exact ⟨this.1.up (Nat.le_refl _) (by decide), Nat.le_trans this.2 (by decide)⟩
  · exact up (lf_int (by omega) (by omega))
theorem world_bd {d : D} (h : WorldP d) : ∃ ds, d = .tuple ds ∧ ds.length = 4 ∧ (∀ x ∈ ds, Bd 0 5 x) ∧ PyData.weightAll ds ≤ 31000 := by
  obtain ⟨n, ks, ss, ws, rfl, n1, n6, hk, hkf, s6, hss, w1, w8, hws⟩ := h.ex
  refine ⟨_, rfl, rfl, ?_⟩
  have all : ∀ x ∈ [PyData.int n, .tuple ks, .tuple ss, .tuple ws], Bd 0 5 x ∧ x.weight ≤ 7728 := by
    intro d hd
    simp only [List.mem_cons, List.not_mem_nil, or_false] at hd
    rcases hd with rfl | rfl | rfl | rfl
    · have := lf_int (i := n) (by omega) (by omega)
      exact ⟨this.1.up (Nat.le_refl _) (by decide), Nat.le_trans this.2 (by decide)⟩
    · have := bd_tup (m := 0) (n := 1) (l := 4) (c := 20) hk.2.1 (by decide) fun d hd => lf_name (hk.2.2 d hd)
      exact ⟨this.1.up (Nat.le_refl _) (by decide), Nat.le_trans this.2 (by decide)⟩
    · have := bd_tup (m := 0) (n := 2) (l := 6) (c := 105) s6 (by decide) fun d hd => src_bd (hss d hd) n6 hk.2.2
      exact ⟨this.1.up (Nat.le_refl _) (by decide), Nat.le_trans this.2 (by decide)⟩
    · exact bd_tup (m := 0) (n := 4) (l := 8) (c := 965) w8 (by decide) fun d hd => way_bd n1 n6 (hws d hd) hk.2.2
  exact ⟨fun x hx => (all x hx).1, Nat.le_trans (wAll_le fun x hx => (all x hx).2) (show 4 * (7728 + 1) ≤ 31000 by decide)⟩
/-- a thing that the law asks of -/
structure Th (d : D) : Prop where
  b : Bd 2 12 d
  w : d.weight ≤ 200000
theorem Th.gq {d : D} (h : Th d) : gq d = true := h.b.gq (by decide)
end Dl
namespace Dl
open PySem PySem.Spec PyProof.Rows L2 Rt
def FI (d : D) : Prop := d = .none ∨ ∃ (i : List Int) (w : String), d = flt i w ∧ okD (S w) = true
theorem fI {i : List Int} {w : String} (h : okD (S w) = true := by decide +kernel) : FI (flt i w) := .inr ⟨i, w, rfl, h⟩
theorem below_I {p : List Int} {d : D} (h : FI d) : FI (below (p.map PyData.int) d) := by
  rcases h with rfl | ⟨i, w, rfl, ok⟩
  · exact .inl rfl
  · exact .inr ⟨p ++ i, w, by unfold flt below; rw [List.map_append], ok⟩
theorem partF_I (ks : List D) (d : D) : FI (partF ks d) := by
  unfold partF
  repeat' split
  all_goals first | exact fI | exact .inl rfl
theorem srcF_I (n : Int) (ks : List D) (d : D) : FI (srcF n ks d) := by
  unfold srcF
  repeat' split
  all_goals first | exact fI | exact .inl rfl
theorem firstF_I {pre : List Int} {f : D → D} (hf : ∀ x, FI (f x)) : ∀ (xs : List D) (k : Nat), FI (firstF (pre.map PyData.int) f k xs)
  | [], _ => .inl rfl
  | x :: xs, k => by
    by_cases h : f x = .none
    · rw [firstF_none h]; exact firstF_I hf xs (k + 1)
    · rw [firstF_some h]
      have : pre.map PyData.int ++ [PyData.int k] = (pre ++ [(k : Int)]).map PyData.int := by simp
      rw [this]
      exact below_I (hf x)
theorem partsF_I (ks : List D) (d : D) : FI (partsF ks d) := by
  unfold partsF
  split
  · split
    · exact fI
    · exact firstF_I (pre := []) (partF_I ks) _ _
  · exact fI
theorem wayF_I (n : Int) (ks : List D) (d : D) : FI (wayF n ks d) := by
  unfold wayF
  split
  · split
    · exact fI
    · rename_i b _ _ _ _
      have h := partsF_I ks b
      split
      · repeat' split
        all_goals first | exact fI | exact .inl rfl
      · exact below_I (p := [1]) h
  · exact fI
theorem kindsF_I (d : D) : FI (kindsF d) := by
  unfold kindsF
  split
  · split
    · exact fI
    · rename_i ds _
      have : ∀ (xs : List D) (k : Nat), FI (orN (firstG (gK ds) k xs)) := by
        intro xs
        induction xs with
        | nil => intro k; exact .inl rfl
        | cons x xs ih =>
          intro k
          cases e : gK ds k x with
          | none => rw [firstG_no e]; exact ih _
          | some d =>
            rw [firstG_yes e]
            unfold gK at e
            split at e
            · cases e; exact fI
            · cases e
      exact this _ _
  · exact fI
theorem orF_I {a b : D} (ha : FI a) (hb : FI b) : FI (orF a b) := by
  unfold orF
  split
  · exact hb
  · exact ha
theorem srcsF_I (n : Int) (ks : List D) (d : D) : FI (srcsF n ks d) := by
  unfold srcsF
  split
  · split
    · exact fI
    · exact firstF_I (pre := [2]) (srcF_I n ks) _ _
  · exact fI
theorem waysF_I (n : Int) (ks : List D) (d : D) : FI (waysF n ks d) := by
  unfold waysF
  split
  · split
    · exact fI
    · exact firstF_I (pre := [3]) (wayF_I n ks) _ _
  · exact fI
theorem worldF_I (d : D) : FI (worldF d) := by
  unfold worldF
  split
  · split
    · exact fI
    · exact orF_I (kindsF_I _) (orF_I (srcsF_I _ _ _) (waysF_I _ _ _))
  · split
    · exact fI
    · exact kindsF_I _
  · exact fI
theorem FI_dp {d : D} (h : FI d) (hl : ∀ i w, d = .tuple [.tuple i, w] → i.length ≤ 10) : dpA 3 d := by
  rcases h with rfl | ⟨i, w, rfl, ok⟩
  · exact (rfl : okD .none = true)
  · refine ⟨by show 2 ≤ 1000; decide, fun d m => ?_⟩
    rcases List.mem_cons.mp m with rfl | m
    · refine ⟨by have := hl _ _ rfl; omega, fun d m => ?_⟩
      obtain ⟨j, _, rfl⟩ := List.mem_map.mp m
      exact (rfl : okD (.int j) = true)
    · rw [List.mem_singleton.mp m]
      exact ok
theorem worldF_len (d : D) : ∀ i w, worldF d = .tuple [.tuple i, w] → i.length ≤ 10 := by
  have hN : FltN 10 (worldF d) := by
    have up : ∀ {n m : Nat} {d : D}, FltN n d → n ≤ m → FltN m d := fun h l => h.imp id fun ⟨i, w, e, q⟩ => ⟨i, w, e, by omega⟩
    have orN' : ∀ {a b : D}, FltN 10 a → FltN 10 b → FltN 10 (orF a b) := fun ha hb => by
      unfold orF
      split
      · exact hb
      · exact ha
    have hw : ∀ n ks d, FltN 10 (waysF n ks d) := fun n ks d => by
      unfold waysF
      split
      · split
        · exact fltN (by decide)
        · exact firstF_N (n := 3) (wayF_N n ks) (by simp) _ _
      · exact fltN (by decide)
    unfold worldF
    split
    · split
      · exact fltN (by decide)
      · exact orN' (up (kindsF_N _) (by omega)) (orN' (srcsF_N _ _ _) (hw _ _ _))
    · split
      · exact fltN (by decide)
      · exact up (kindsF_N _) (by omega)
    · exact fltN (by decide)
  intro i w e
  rcases hN with z | ⟨i', w', e', l⟩
  · rw [e] at z; cases z
  · rw [e] at e'; cases e'; exact l
def spLaw (K : PySem.W.Frag) : Sp := fun vs H Q _ => ∃ (a : Addr) (ns : List Int), vs = [.ref a] ∧ SqL K H a (ns.map V.int) ∧ ns.length ≤ 63 ∧ ∀ H', Q (.bl true) H'
section
variable {P : Program} {w : World} {K : PySem.W.Frag} {mg : Str → Option Value} {base : Heap}
theorem ok_alike {f : Addr} {fd : FuncData} (F : Fun K "_law_alike" "_law_alike" s_law_alike f fd) (b : Binds K fd ["_law_one_here", "_law_other"] []) (g : mg "_law_alike" = some (.ref f)) (m_isinstance : mg "isinstance" = none) (m_tuple : mg "tuple" = none) (m_bool : mg "bool" = none) (m_int : mg "int" = none) (m_str : mg "str" = none) (m_len : mg "len" = none) (m_all : mg "all" = none) (m_zip : mg "zip" = none) : FnOk P w K mg base CX0 3 f fd ["_law_one_here", "_law_other"] (spD 2 (sAl (dpA 3))) := by
  have s0 : FnOk P w K mg base CX0 0 f fd ["_law_one_here", "_law_other"] (spD 2 (sAl (dpA 0))) := ok_never fun ds => by
    unfold sAl
    split
    · exact @if_neg _ (Classical.propDecidable _) (fun h => h.2) _ _ _
    · rfl
  have s1 := ok_alikeS F m_isinstance m_tuple m_bool m_int m_str m_len m_all m_zip ⟨f, fd, s0, g, F.kp, b⟩
  have s2 := ok_alikeS F m_isinstance m_tuple m_bool m_int m_str m_len m_all m_zip ⟨f, fd, s1, g, F.kp, b⟩
  exact ok_alikeS F m_isinstance m_tuple m_bool m_int m_str m_len m_all m_zip ⟨f, fd, s2, g, F.kp, b⟩
end
end Dl
namespace Dl
open PySem PySem.Spec PyProof.Rows L2 Rt
section
variable {P : Program} {w : World} {K : PySem.W.Frag} {mg : Str → Option Value} {base : Heap}
theorem ok_law {f : Addr} {fd : FuncData} (F : Fun K "law" "law" s_law f fd) (hB : ∃ o, base.get? sysModules = some o) (m_range : mg "range" = none) (m_list : mg "list" = none) (m_repr : mg "repr" = none)
    (C__law_draws : Cl P w K mg base 1 "_law_draws" ["_law_script"] (spDraws K)) (C__law_world : Cl P w K mg base 5 "_law_world" ["_law_drawn", "_law_wide", "_law_old"] (spN 2 gWorld)) (C__law_spoilt : Cl P w K mg base 15 "_law_spoilt" ["_law_drawn", "_law_thing"] (spN 1 (gSp 12))) (C__law_alike : Cl P w K mg base 3 "_law_alike" ["_law_one_here", "_law_other"] (spD 2 (sAl (dpA 3)))) (C_worldfault : Cl P w K mg base 7 "worldfault" ["thing"] (spD 1 sWorldF)) (C__law_world_word : Cl P w K mg base 4 "_law_world_word" ["_law_thing"] (spD 1 sWorldX)) : FnG P w K mg base 16 f fd ["_law_script"] (spLaw K) := by
  refine okG F sc_law (fun vs H Q E h => ?_) (fun cdv A outer s H vs Q E hr free h => ?_)
  · obtain ⟨a, ns, rfl, _⟩ := h
    rfl
  · obtain ⟨a, ns, rfl, hS, hn, q⟩ := h
    refine ⟨_, pss_cons (ps_set (i := 1) sc_law.nd rfl (.inl rfl) (pe_cl C__law_draws (hr.mono (by omega)) (by rfl) (pa_cons (pv 0) pa_nil)))
      (nSs_cons (nS_asg (K := K) (p := .nm 2) (ps_set (i := 2) sc_law.nd rfl (.inl rfl) (nE_draw C__law_world (hr.mono (by omega)) (by rfl) (pv 1) (nA_cons (nE_pure (dE_c (μ := true) pe_int)) (nA_cons (nE_pure (dE_c (μ := true) pe_int)) nA_nil)))))
  (nSs_cons (nS_if (nT_pure (dT_cmp o_isnot (dE_cl C_worldfault (hr.mono (by omega)) (by rfl) (dA_cons (dE_var (μ := true) (pv 2)) (dA_nil (μ := true)))) (dE_c (μ := true) pe_non) (nomark _)))
    (nSs_one (nS_retL (ps_ret (dE_c (μ := true) pe_bl))))
    nSs_nil)
  (nSs_cons (nS_own (ps_set (i := 3) sc_law.nd rfl (.inl rfl) (nN_lst (nA_cons (nE_pure (dE_c (μ := true) pe_non)) (nA_cons (nE_pure (dE_c (μ := true) pe_bl)) (nA_cons (nE_pure (dE_c (μ := true) pe_int)) (nA_cons (nE_pure (dE_c (μ := true) pe_str)) (nA_cons (nE_pure (dE_tup (dA_nil (μ := true)))) (nA_cons (nE_pure (dE_lst (dA_nil (μ := true)))) (nA_cons (nE_pure (dE_dic0 (μ := true))) (nA_cons (nE_pure (dE_callTy c_list (by rfl) m_list (by decide +kernel) (dA_cons (dE_var (μ := true) (pv 2)) (dA_nil (μ := true))))) (nA_cons (nE_pure (dE_sl (dE_var (μ := true) (pv 2)) dO_none (dO_some (dE_c (μ := true) pe_int)))) (nA_cons (nE_pure (dE_op o_mulX (dE_tup (dA_cons (dE_c (μ := true) pe_non) (dA_nil (μ := true)))) (dE_c (μ := true) pe_int))) (nA_cons (nE_pure (dE_var (μ := true) (pv 2))) nA_nil))))))))))))))
  (nSs_cons (nS_app (K := K) (ps_expr (pe_bm PySem.F.plainAttrs_list PySem.F.slot_list_append PySem.F.type_list_append mt_append (pv 3) (nA_cons (nE_pure (dE_op o_add (dE_var (μ := true) (pv 2)) (dE_tup (dA_cons (dE_tup (dA_nil (μ := true))) (dA_nil (μ := true)))))) nA_nil))))
  (nSs_cons (nS_for (K := K) (p := (.nm 4)) (ps_for PassesOwn.never rfl (nI_pure (dI_ran1 (by rfl) m_range (dA_cons (dE_c (μ := true) pe_int) (dA_nil (μ := true))))) (pg_name (i := 4) sc_law.nd rfl (.inl rfl))
    (nSs_cons (nS_asg (K := K) (p := .nm 5) (ps_set (i := 5) sc_law.nd rfl (.inl rfl) (nE_draw C__law_spoilt (hr.mono (by omega)) (by rfl) (pv 1) (nA_cons (nE_pure (dE_var (μ := true) (pv 2))) nA_nil))))
  (nSs_one (nS_own (ps_set (i := 3) sc_law.nd rfl (.inl rfl) (nO_cat (pv 3) (nE_lst (nA_cons (nE_pure (dE_var (μ := true) (pv 5))) (nA_cons (nE_draw C__law_spoilt (hr.mono (by omega)) (by rfl) (pv 1) (nA_cons (nE_pure (dE_var (μ := true) (pv 5))) nA_nil)) nA_nil))))))))))
  (nSs_cons (nS_frz (i := 3) (nS_for (K := K) (p := (.nm 6)) (ps_for PassesOwn.never rfl (nI_pure (dI_seq (dE_var (μ := true) (pv 3)))) (pg_name (i := 6) sc_law.nd rfl (.inl rfl))
    (nSs_cons (nS_asg (K := K) (p := .nm 7) (ps_set (i := 7) sc_law.nd rfl (.inl rfl) (nE_pure (dE_callB (c_repr free hB hr.units) (by rfl) m_repr (by decide +kernel) (dA_cons (dE_var (μ := true) (pv 6)) (dA_nil (μ := true)))))))
  (nSs_cons (nS_asg (K := K) (p := .nm 8) (ps_set (i := 8) sc_law.nd rfl (.inl rfl) (nE_pure (dE_cl C_worldfault (hr.mono (by omega)) (by rfl) (dA_cons (dE_var (μ := true) (pv 6)) (dA_nil (μ := true)))))))
  (nSs_cons (nS_if (nT_pure (PW.pt (dW_or (dT_not (dT_val (dE_cl C__law_alike (hr.mono (by omega)) (by rfl) (dA_cons (dE_var (μ := true) (pv 8)) (dA_cons (dE_cl C__law_world_word (hr.mono (by omega)) (by rfl) (dA_cons (dE_var (μ := true) (pv 6)) (dA_nil (μ := true)))) (dA_nil (μ := true))))))) (dW_or1 (dT_not (dT_val (dE_cl C__law_alike (hr.mono (by omega)) (by rfl) (dA_cons (dE_cl C_worldfault (hr.mono (by omega)) (by rfl) (dA_cons (dE_var (μ := true) (pv 6)) (dA_nil (μ := true)))) (dA_cons (dE_var (μ := true) (pv 8)) (dA_nil (μ := true)))))))))))
    (nSs_one (nS_retL (ps_ret (dE_c (μ := true) pe_bl))))
    nSs_nil)
  (nSs_one (nS_if (nT_pure (dT_cmp (o_neS hr.units) (dE_callB (c_repr free hB hr.units) (by rfl) m_repr (by decide +kernel) (dA_cons (dE_var (μ := true) (pv 6)) (dA_nil (μ := true)))) (dE_var (μ := true) (pv 7)) (nomark _)))
    (nSs_one (nS_retL (ps_ret (dE_c (μ := true) pe_bl))))
    nSs_nil))))))))
  (nSs_one (nS_retL (ps_ret (dE_c (μ := true) pe_bl)))))))))), ?_⟩
    refine ⟨.ref a, rfl, a, ns, rfl, hS, hn, fun g H1 _ F1 => ?_⟩
    let R : Option LV → Option LV → Option LV → Option LV → Option LV → Option LV → Option LV → Rho := fun a b c d e f g => [none, some .pool, a, b, c, d, e, f, g]
    refine ⟨g, g.own, H1, R none none none none none none none, 1000000, ⟨.refl, fun p o => g.alive F1 o, fun p o => g.alive F1 o, fun p o => o, F1, rfl, fun i d e => ?_, fun i d e => ?_, fun i d e => ?_, fun i e => ?_, fun i j a b p e => ?_⟩, ?_⟩
    · match i, e with
      | 0, e | 1, e | 2, e | 3, e | 4, e | 5, e | 6, e | 7, e | 8, e => cases e
      | i + 9, e => cases e
    · match i, e with
      | 0, e | 1, e | 2, e | 3, e | 4, e | 5, e | 6, e | 7, e | 8, e => cases e
      | i + 9, e => cases e
    · match i, e with
      | 0, e | 1, e | 2, e | 3, e | 4, e | 5, e | 6, e | 7, e | 8, e => cases e
      | i + 9, e => cases e
    · match i, e with
      | 1, e => rfl
      | 0, e | 2, e | 3, e | 4, e | 5, e | 6, e | 7, e | 8, e => cases e
      | i + 9, e => cases e
    · match i, e with
      | 0, e | 1, e | 2, e | 3, e | 4, e | 5, e | 6, e | 7, e | 8, e => cases e
      | i + 9, e => cases e
    refine WP.m _ (P := fun o b => o = .rt (.bool true)) (fun o b' e => ?_) ?_
    · subst e
      intro v H' _ _ r
      cases r
      exact q H'
    refine ⟨rfl, .int 6, rfl, .int 20, rfl, _, rfl, _, rfl, rfl, ⟨6, 20, rfl, by decide, by decide, by decide, by decide⟩, by decide, fun W b1 hW h1 => ⟨R (some (.dat W)) none none none none none none, rfl, ?_⟩⟩
    have wn := world_none hW
    obtain ⟨ds, rfl, l4, hd5, hw⟩ := world_bd hW
    have bW : ∀ k, 6 ≤ k → Bd 0 k (.tuple ds) := fun k hk => (show Bd 0 6 (.tuple ds) from ⟨by omega, hd5⟩).up (Nat.le_refl _) hk
    have gW : gq (.tuple ds) = true := (bW 6 (Nat.le_refl _)).gq (by decide)
    have eW : sWorldF [.tuple ds] = some .none := (if_pos gW).trans (by rw [wn])
    refine ⟨false, ev_oB (ev_e2 (a := .none) (b := .none) (ev_call rfl rfl eW) rfl rfl), ?_⟩
    let L0 : List D := [.none, .bool true, .int 5, S "world", .tuple [], .list [], .dict [], .list ds, .tuple (cutD ds none (some 3)), .tuple [.none, .none, .none, .none], .tuple ds]
    refine ⟨.none, rfl, .bool true, rfl, .int 5, rfl, S "world", rfl, .tuple [], rfl, .list [], rfl, .dict [], rfl, .list ds, rfl, .tuple (cutD ds none (some 3)), rfl, .tuple [.none, .none, .none, .none], rfl, .tuple ds, rfl, _, rfl, _, rfl, _, rfl, _, rfl, _, rfl, _, rfl, _, rfl, _, rfl, _, rfl, _, rfl, _, rfl, .list L0, rfl, L0, rfl, by show 3 < 9; decide, ?_⟩
    let L1 : List D := L0 ++ [.tuple (ds ++ [.tuple []])]
    refine ⟨L0, rfl, .tuple (ds ++ [.tuple []]), ev_e2 (a := .tuple ds) (b := .tuple [.tuple []]) rfl rfl (add_tup (sz (by simp; omega))), _, rfl, .tuple (ds ++ [.tuple []]), rfl, by show 11 < sizeLine; decide, ?_⟩
    have up : ∀ {d : D}, (∀ m, Bd m 2 d) → d.weight ≤ 200 → Th d := fun h hw => ⟨(h 2).up (Nat.le_refl _) (by decide), by omega⟩
    have hL1 : ∀ d ∈ L1, Th d := by
      intro d hd
      simp only [L1, L0, List.mem_append, List.mem_cons, List.not_mem_nil, or_false] at hd
      have w0 : (PyData.tuple ds).weight ≤ 31000 := hw
      have bw : Bd 2 12 (.tuple ds) := (bW 12 (by decide)).up (by decide) (Nat.le_refl _)
      rcases hd with (rfl | rfl | rfl | rfl | rfl | rfl | rfl | rfl | rfl | rfl | rfl) | rfl
      · exact up (fun m => trivial) (by decide)
      · exact up (fun m => trivial) (by decide)
      · exact up (fun m => by show (5 : Nat) ≤ 10 ^ 29 + 100 * m; omega) (by decide)
      · exact up (oddS "world").1 (by decide)
      · exact up (fun m => ⟨Nat.zero_le _, fun d h => nomatch h⟩) (by decide)
      · exact up (fun m => ⟨Nat.zero_le _, fun d h => nomatch h⟩) (by decide)
      · exact up (fun m => rfl) (by decide)
      · exact ⟨⟨bw.1, bw.2⟩, by show PyData.weightAll ds ≤ 200000; omega⟩
      · rw [show cutD ds none (some 3) = ds.take 3 from cut_to (m := 3) (by omega)]
        refine ⟨⟨by rw [List.length_take]; omega, fun d hd => bw.2 d (List.mem_of_mem_take hd)⟩, ?_⟩
        have := wAll_take ds 3
        show PyData.weightAll _ ≤ 200000
        omega
      · refine up (fun m => ⟨by show 4 ≤ 10 + m; omega, fun d hd => ?_⟩) (by decide)
        simp only [List.mem_cons, List.not_mem_nil, or_false, or_self] at hd
        subst hd
        trivial
      · exact ⟨bw, by omega⟩
      · refine ⟨⟨by rw [List.length_append]; simp; omega, fun d hd => ?_⟩, ?_⟩
        · rcases List.mem_append.mp hd with hd | hd
          · exact bw.2 d hd
          · rw [List.mem_singleton.mp hd]
            exact ⟨Nat.zero_le _, fun d h => nomatch h⟩
        · show PyData.weightAll (ds ++ [.tuple []]) ≤ 200000
          rw [wAll_app]
          have : PyData.weightAll [PyData.tuple []] = 1 := rfl
          omega
    refine ⟨rgD 0 14, ev_itG (ds := [.int 14]) rfl (ran1_ok (j := 14) (by decide) (by decide)), forN_cost 14 56 (fun k ρ => ∃ L x y, ρ = R (some (.dat (.tuple ds))) (some (.own L)) x y none none none ∧ L.length = 12 + 2 * k ∧ ∀ d ∈ L, Th d) (rgD 0 14) 0 _ b1 (by rw [rgD_len]; decide) ⟨L1, _, _, rfl, rfl, hL1⟩ (by rw [rgD_len]; omega) (fun x hx k ρ b hk i hb => ?_) (fun ρ b2 i h2 => ?_)⟩
    · obtain ⟨L, y1, y2, rfl, ll, hL⟩ := i
      obtain ⟨t, ht, rfl⟩ := List.mem_map.mp hx
      refine ⟨R (some (.dat (.tuple ds))) (some (.own L)) (some (.dat (.int (0 + t)))) y2 none none none, rfl, fun Q' q' => ?_⟩
      refine ⟨rfl, .tuple ds, rfl, _, rfl, rfl, ⟨.tuple ds, 0, rfl, by decide, bW 12 (by decide)⟩, by omega, fun B b2 ⟨_, e, sp1⟩ h2 => ?_⟩
      cases e
      have bB := sp1.1 0 8 (by decide) (bW 8 (by decide))
      have wB' : B.weight ≤ 62200 := Nat.le_trans sp1.2 (by have : (PyData.tuple ds).weight ≤ 31000 := hw; omega)
      refine ⟨R (some (.dat (.tuple ds))) (some (.own L)) (some (.dat (.int (0 + t)))) (some (.dat B)) none none none, rfl, ?_⟩
      refine ⟨L, rfl, B, rfl, rfl, B, rfl, _, rfl, rfl, ⟨B, 1, rfl, by decide, bB.up (Nat.le_refl _) (by decide)⟩, by omega, fun B2 b3 ⟨_, e, sp2⟩ h3 => ?_⟩
      cases e
      have tB : Th B := ⟨bB.up (by decide) (by decide), by omega⟩
      have tB2 : Th B2 := ⟨sp2.1 1 10 (by decide) bB, Nat.le_trans sp2.2 (by omega)⟩
      refine ⟨_, rfl, _, rfl, .list [B, B2], rfl, [B, B2], rfl, sz (by simp; omega), L ++ [B, B2], rfl, by show 3 < 9; decide, q' _ b3 ⟨L ++ [B, B2], _, _, rfl, by rw [List.length_append, ll]; simp; omega, fun d hd => ?_⟩ (by omega)⟩
      rcases List.mem_append.mp hd with hd | hd
      · exact hL d hd
      · rcases List.mem_cons.mp hd with rfl | hd
        · exact tB
        · rw [List.mem_singleton.mp hd]; exact tB2
    · obtain ⟨L, y1, y2, rfl, ll, hL⟩ := i
      refine ⟨L, rfl, L, rfl, forN_cost L.length 0 (fun k ρ => ∃ x y z, ρ = R (some (.dat (.tuple ds))) (some (.dat (.list L))) y1 y2 x y z) L 0 _ b2 (by omega) ⟨_, _, _, rfl⟩ (by omega) (fun T hT k ρ b hk i hb => ?_) (fun ρ b3 i h3 => ?_)⟩
      · obtain ⟨x1, x2, x3, rfl⟩ := i
        have th := hL T hT
        have er : reprD [T] = some (.str T.shown) := th.b.repr (by decide) (by decide) th.w
        have e1 : sWorldF [T] = some (worldF T) := if_pos th.gq
        have e2 : sWorldX [T] = some (worldF T) := if_pos th.gq
        have al : sAl (dpA 3) [worldF T, worldF T] = some (.bool true) := sAl_ok (FI_dp (worldF_I T) (worldF_len T))
        refine ⟨R (some (.dat (.tuple ds))) (some (.dat (.list L))) y1 y2 (some (.dat T)) x2 x3, rfl, fun Q' q' => ?_⟩
        refine ⟨.str T.shown, er, R (some (.dat (.tuple ds))) (some (.dat (.list L))) y1 y2 (some (.dat T)) (some (.dat (.str T.shown))) x3, rfl, ?_⟩
        refine ⟨worldF T, ev_call rfl rfl e1, R (some (.dat (.tuple ds))) (some (.dat (.list L))) y1 y2 (some (.dat T)) (some (.dat (.str T.shown))) (some (.dat (worldF T))), rfl, ?_⟩
        refine ⟨false, ev_oOrF (ev_not (b := true) (ev_oB (ev_call (ev_cons rfl (ev_cons (ev_call (ds := [T]) rfl rfl e2) rfl)) rfl al))) (ev_not (b := true) (ev_oB (ev_call (ev_cons (ev_call (ds := [T]) rfl rfl e1) (ev_cons rfl rfl)) rfl al))), ?_⟩
        refine ⟨false, ev_oB (ev_e2 (a := .str T.shown) (b := .str T.shown) er rfl (by show some (PyData.bool (!(T.shown == T.shown))) = _; rw [beq_self_eq_true]; rfl)), ?_⟩
        exact q' _ b ⟨_, _, _, rfl⟩ (by omega)
      · obtain ⟨x1, x2, x3, rfl⟩ := i
        exact ⟨.bool true, rfl, rfl⟩
end
end Dl
namespace Dl
open PySem PySem.Spec PyProof.Rows L2 Rt
theorem all_mk {l : PySem.W.OpenLaw} {w : World} {K : PySem.W.Frag} {h : Heap} {mg : Str → Option Value} {fa f0 f1 f2 f3 f4 f5 f6 f7 f8 f9 f10 f11 f12 f13 f14 f15 f16 f17 f18 f19 f20 f21 f22 f23 f24 f25 f26 f27 f28 f29 f30 f31 f32 f33 f34 f35 : Addr} (X : K.In h) (G : h.Ns mainGlobals mg) (hfa : mg "law" = some (.ref fa))
    {od0 an0 od1 an1 od2 an2 od3 an3 od4 an4 od5 an5 od6 an6 od7 an7 od8 an8 od9 an9 od10 an10 od11 an11 od12 an12 od13 an13 od14 an14 od15 an15 od16 an16 od17 an17 od18 an18 od19 an19 od20 an20 od21 an21 od22 an22 od23 an23 od24 an24 od25 an25 od26 an26 od27 an27 od28 an28 od29 an29 od30 an30 od31 an31 od32 an32 od33 an33 od34 an34 od35 an35 : Option Addr} {sl0 sl1 sl2 sl3 sl4 sl5 sl6 sl7 sl8 sl9 sl10 sl11 sl12 sl13 sl14 sl15 sl16 sl17 sl18 sl19 sl20 sl21 sl22 sl23 sl24 sl25 sl26 sl27 sl28 sl29 sl30 sl31 sl32 sl33 sl34 sl35 : Array (Option Value)} {oc0 kV0 dc0 pm0 cd0 ct0 oc1 kV1 dc1 pm1 cd1 ct1 oc2 kV2 dc2 pm2 cd2 ct2 oc3 kV3 dc3 pm3 cd3 ct3 oc4 kV4 dc4 pm4 cd4 ct4 oc5 kV5 dc5 pm5 cd5 ct5 oc6 kV6 dc6 pm6 cd6 ct6 oc7 kV7 dc7 pm7 cd7 ct7 oc8 kV8 dc8 pm8 cd8 ct8 oc9 kV9 dc9 pm9 cd9 ct9 oc10 kV10 dc10 pm10 cd10 ct10 oc11 kV11 dc11 pm11 cd11 ct11 oc12 kV12 dc12 pm12 cd12 ct12 oc13 kV13 dc13 pm13 cd13 ct13 oc14 kV14 dc14 pm14 cd14 ct14 oc15 kV15 dc15 pm15 cd15 ct15 oc16 kV16 dc16 pm16 cd16 ct16 oc17 kV17 dc17 pm17 cd17 ct17 oc18 kV18 dc18 pm18 cd18 ct18 oc19 kV19 dc19 pm19 cd19 ct19 oc20 kV20 dc20 pm20 cd20 ct20 oc21 kV21 dc21 pm21 cd21 ct21 oc22 kV22 dc22 pm22 cd22 ct22 oc23 kV23 dc23 pm23 cd23 ct23 oc24 kV24 dc24 pm24 cd24 ct24 oc25 kV25 dc25 pm25 cd25 ct25 oc26 kV26 dc26 pm26 cd26 ct26 oc27 kV27 dc27 pm27 cd27 ct27 oc28 kV28 dc28 pm28 cd28 ct28 oc29 kV29 dc29 pm29 cd29 ct29 oc30 kV30 dc30 pm30 cd30 ct30 oc31 kV31 dc31 pm31 cd31 ct31 oc32 kV32 dc32 pm32 cd32 ct32 oc33 kV33 dc33 pm33 cd33 ct33 oc34 kV34 dc34 pm34 cd34 ct34 oc35 kV35 dc35 pm35 cd35 ct35 : Value}
    (a0 : PySem.W.nsIn K mainGlobals "is_number" = some (some (.ref f0))) (l0 : K.lookup f0 = some ⟨oc0, od0, .func (PySem.W.fnOf "is_number" "is_number" (defArgs s_is_number) (defBody s_is_number) (defScope s_is_number) .none kV0 dc0 pm0 an0 cd0 ct0), sl0⟩) (c0 : PySem.W.codeIn K cd0 "is_number" = true) (k0 : PySem.W.keepIn K (.ref f0) = true)
    (a1 : PySem.W.nsIn K mainGlobals "is_number_from" = some (some (.ref f1))) (l1 : K.lookup f1 = some ⟨oc1, od1, .func (PySem.W.fnOf "is_number_from" "is_number_from" (defArgs s_is_number_from) (defBody s_is_number_from) (defScope s_is_number_from) .none kV1 dc1 pm1 an1 cd1 ct1), sl1⟩) (c1 : PySem.W.codeIn K cd1 "is_number_from" = true) (k1 : PySem.W.keepIn K (.ref f1) = true)
    (a2 : PySem.W.nsIn K mainGlobals "is_name" = some (some (.ref f2))) (l2 : K.lookup f2 = some ⟨oc2, od2, .func (PySem.W.fnOf "is_name" "is_name" (defArgs s_is_name) (defBody s_is_name) (defScope s_is_name) .none kV2 dc2 pm2 an2 cd2 ct2), sl2⟩) (c2 : PySem.W.codeIn K cd2 "is_name" = true) (k2 : PySem.W.keepIn K (.ref f2) = true)
    (a3 : PySem.W.nsIn K mainGlobals "is_row" = some (some (.ref f3))) (l3 : K.lookup f3 = some ⟨oc3, od3, .func (PySem.W.fnOf "is_row" "is_row" (defArgs s_is_row) (defBody s_is_row) (defScope s_is_row) .none kV3 dc3 pm3 an3 cd3 ct3), sl3⟩) (c3 : PySem.W.codeIn K cd3 "is_row" = true) (k3 : PySem.W.keepIn K (.ref f3) = true)
    (a4 : PySem.W.nsIn K mainGlobals "is_rising" = some (some (.ref f4))) (l4 : K.lookup f4 = some ⟨oc4, od4, .func (PySem.W.fnOf "is_rising" "is_rising" (defArgs s_is_rising) (defBody s_is_rising) (defScope s_is_rising) .none kV4 dc4 pm4 an4 cd4 ct4), sl4⟩) (c4 : PySem.W.codeIn K cd4 "is_rising" = true) (k4 : PySem.W.keepIn K (.ref f4) = true)
    (a5 : PySem.W.nsIn K mainGlobals "part_fault" = some (some (.ref f5))) (l5 : K.lookup f5 = some ⟨oc5, od5, .func (PySem.W.fnOf "part_fault" "part_fault" (defArgs s_part_fault) (defBody s_part_fault) (defScope s_part_fault) .none kV5 dc5 pm5 an5 cd5 ct5), sl5⟩) (c5 : PySem.W.codeIn K cd5 "part_fault" = true) (k5 : PySem.W.keepIn K (.ref f5) = true)
    (a6 : PySem.W.nsIn K mainGlobals "fault_below" = some (some (.ref f6))) (l6 : K.lookup f6 = some ⟨oc6, od6, .func (PySem.W.fnOf "fault_below" "fault_below" (defArgs s_fault_below) (defBody s_fault_below) (defScope s_fault_below) .none kV6 dc6 pm6 an6 cd6 ct6), sl6⟩) (c6 : PySem.W.codeIn K cd6 "fault_below" = true) (k6 : PySem.W.keepIn K (.ref f6) = true)
    (a7 : PySem.W.nsIn K mainGlobals "parts_fault" = some (some (.ref f7))) (l7 : K.lookup f7 = some ⟨oc7, od7, .func (PySem.W.fnOf "parts_fault" "parts_fault" (defArgs s_parts_fault) (defBody s_parts_fault) (defScope s_parts_fault) .none kV7 dc7 pm7 an7 cd7 ct7), sl7⟩) (c7 : PySem.W.codeIn K cd7 "parts_fault" = true) (k7 : PySem.W.keepIn K (.ref f7) = true)
    (a8 : PySem.W.nsIn K mainGlobals "is_hours" = some (some (.ref f8))) (l8 : K.lookup f8 = some ⟨oc8, od8, .func (PySem.W.fnOf "is_hours" "is_hours" (defArgs s_is_hours) (defBody s_is_hours) (defScope s_is_hours) .none kV8 dc8 pm8 an8 cd8 ct8), sl8⟩) (c8 : PySem.W.codeIn K cd8 "is_hours" = true) (k8 : PySem.W.keepIn K (.ref f8) = true)
    (a9 : PySem.W.nsIn K mainGlobals "source_fault" = some (some (.ref f9))) (l9 : K.lookup f9 = some ⟨oc9, od9, .func (PySem.W.fnOf "source_fault" "source_fault" (defArgs s_source_fault) (defBody s_source_fault) (defScope s_source_fault) .none kV9 dc9 pm9 an9 cd9 ct9), sl9⟩) (c9 : PySem.W.codeIn K cd9 "source_fault" = true) (k9 : PySem.W.keepIn K (.ref f9) = true)
    (a10 : PySem.W.nsIn K mainGlobals "way_fault" = some (some (.ref f10))) (l10 : K.lookup f10 = some ⟨oc10, od10, .func (PySem.W.fnOf "way_fault" "way_fault" (defArgs s_way_fault) (defBody s_way_fault) (defScope s_way_fault) .none kV10 dc10 pm10 an10 cd10 ct10), sl10⟩) (c10 : PySem.W.codeIn K cd10 "way_fault" = true) (k10 : PySem.W.keepIn K (.ref f10) = true)
    (a11 : PySem.W.nsIn K mainGlobals "kinds_fault" = some (some (.ref f11))) (l11 : K.lookup f11 = some ⟨oc11, od11, .func (PySem.W.fnOf "kinds_fault" "kinds_fault" (defArgs s_kinds_fault) (defBody s_kinds_fault) (defScope s_kinds_fault) .none kV11 dc11 pm11 an11 cd11 ct11), sl11⟩) (c11 : PySem.W.codeIn K cd11 "kinds_fault" = true) (k11 : PySem.W.keepIn K (.ref f11) = true)
    (a12 : PySem.W.nsIn K mainGlobals "sources_fault" = some (some (.ref f12))) (l12 : K.lookup f12 = some ⟨oc12, od12, .func (PySem.W.fnOf "sources_fault" "sources_fault" (defArgs s_sources_fault) (defBody s_sources_fault) (defScope s_sources_fault) .none kV12 dc12 pm12 an12 cd12 ct12), sl12⟩) (c12 : PySem.W.codeIn K cd12 "sources_fault" = true) (k12 : PySem.W.keepIn K (.ref f12) = true)
    (a13 : PySem.W.nsIn K mainGlobals "ways_fault" = some (some (.ref f13))) (l13 : K.lookup f13 = some ⟨oc13, od13, .func (PySem.W.fnOf "ways_fault" "ways_fault" (defArgs s_ways_fault) (defBody s_ways_fault) (defScope s_ways_fault) .none kV13 dc13 pm13 an13 cd13 ct13), sl13⟩) (c13 : PySem.W.codeIn K cd13 "ways_fault" = true) (k13 : PySem.W.keepIn K (.ref f13) = true)
    (a14 : PySem.W.nsIn K mainGlobals "worldfault" = some (some (.ref f14))) (l14 : K.lookup f14 = some ⟨oc14, od14, .func (PySem.W.fnOf "worldfault" "worldfault" (defArgs s_worldfault) (defBody s_worldfault) (defScope s_worldfault) .none kV14 dc14 pm14 an14 cd14 ct14), sl14⟩) (c14 : PySem.W.codeIn K cd14 "worldfault" = true) (k14 : PySem.W.keepIn K (.ref f14) = true)
    (a15 : PySem.W.nsIn K mainGlobals "_law_draws" = some (some (.ref f15))) (l15 : K.lookup f15 = some ⟨oc15, od15, .func (PySem.W.fnOf "_law_draws" "_law_draws" (defArgs s_law_draws) (defBody s_law_draws) (defScope s_law_draws) .none kV15 dc15 pm15 an15 cd15 ct15), sl15⟩) (c15 : PySem.W.codeIn K cd15 "_law_draws" = true) (k15 : PySem.W.keepIn K (.ref f15) = true)
    (a16 : PySem.W.nsIn K mainGlobals "_law_next" = some (some (.ref f16))) (l16 : K.lookup f16 = some ⟨oc16, od16, .func (PySem.W.fnOf "_law_next" "_law_next" (defArgs s_law_next) (defBody s_law_next) (defScope s_law_next) .none kV16 dc16 pm16 an16 cd16 ct16), sl16⟩) (c16 : PySem.W.codeIn K cd16 "_law_next" = true) (k16 : PySem.W.keepIn K (.ref f16) = true)
    (a17 : PySem.W.nsIn K mainGlobals "_law_one" = some (some (.ref f17))) (l17 : K.lookup f17 = some ⟨oc17, od17, .func (PySem.W.fnOf "_law_one" "_law_one" (defArgs s_law_one) (defBody s_law_one) (defScope s_law_one) .none kV17 dc17 pm17 an17 cd17 ct17), sl17⟩) (c17 : PySem.W.codeIn K cd17 "_law_one" = true) (k17 : PySem.W.keepIn K (.ref f17) = true)
    (a18 : PySem.W.nsIn K mainGlobals "_law_alike" = some (some (.ref f18))) (l18 : K.lookup f18 = some ⟨oc18, od18, .func (PySem.W.fnOf "_law_alike" "_law_alike" (defArgs s_law_alike) (defBody s_law_alike) (defScope s_law_alike) .none kV18 dc18 pm18 an18 cd18 ct18), sl18⟩) (c18 : PySem.W.codeIn K cd18 "_law_alike" = true) (k18 : PySem.W.keepIn K (.ref f18) = true)
    (a19 : PySem.W.nsIn K mainGlobals "_law_kinds" = some (some (.ref f19))) (l19 : K.lookup f19 = some ⟨oc19, od19, .func (PySem.W.fnOf "_law_kinds" "_law_kinds" (defArgs s_law_kinds) (defBody s_law_kinds) (defScope s_law_kinds) .none kV19 dc19 pm19 an19 cd19 ct19), sl19⟩) (c19 : PySem.W.codeIn K cd19 "_law_kinds" = true) (k19 : PySem.W.keepIn K (.ref f19) = true)
    (a20 : PySem.W.nsIn K mainGlobals "_law_source" = some (some (.ref f20))) (l20 : K.lookup f20 = some ⟨oc20, od20, .func (PySem.W.fnOf "_law_source" "_law_source" (defArgs s_law_source) (defBody s_law_source) (defScope s_law_source) .none kV20 dc20 pm20 an20 cd20 ct20), sl20⟩) (c20 : PySem.W.codeIn K cd20 "_law_source" = true) (k20 : PySem.W.keepIn K (.ref f20) = true)
    (a21 : PySem.W.nsIn K mainGlobals "_law_part" = some (some (.ref f21))) (l21 : K.lookup f21 = some ⟨oc21, od21, .func (PySem.W.fnOf "_law_part" "_law_part" (defArgs s_law_part) (defBody s_law_part) (defScope s_law_part) .none kV21 dc21 pm21 an21 cd21 ct21), sl21⟩) (c21 : PySem.W.codeIn K cd21 "_law_part" = true) (k21 : PySem.W.keepIn K (.ref f21) = true)
    (a22 : PySem.W.nsIn K mainGlobals "_law_way" = some (some (.ref f22))) (l22 : K.lookup f22 = some ⟨oc22, od22, .func (PySem.W.fnOf "_law_way" "_law_way" (defArgs s_law_way) (defBody s_law_way) (defScope s_law_way) .none kV22 dc22 pm22 an22 cd22 ct22), sl22⟩) (c22 : PySem.W.codeIn K cd22 "_law_way" = true) (k22 : PySem.W.keepIn K (.ref f22) = true)
    (a23 : PySem.W.nsIn K mainGlobals "_law_world" = some (some (.ref f23))) (l23 : K.lookup f23 = some ⟨oc23, od23, .func (PySem.W.fnOf "_law_world" "_law_world" (defArgs s_law_world) (defBody s_law_world) (defScope s_law_world) .none kV23 dc23 pm23 an23 cd23 ct23), sl23⟩) (c23 : PySem.W.codeIn K cd23 "_law_world" = true) (k23 : PySem.W.keepIn K (.ref f23) = true)
    (a24 : PySem.W.nsIn K mainGlobals "_law_is" = some (some (.ref f24))) (l24 : K.lookup f24 = some ⟨oc24, od24, .func (PySem.W.fnOf "_law_is" "_law_is" (defArgs s_law_is) (defBody s_law_is) (defScope s_law_is) .none kV24 dc24 pm24 an24 cd24 ct24), sl24⟩) (c24 : PySem.W.codeIn K cd24 "_law_is" = true) (k24 : PySem.W.keepIn K (.ref f24) = true)
    (a25 : PySem.W.nsIn K mainGlobals "_law_name" = some (some (.ref f25))) (l25 : K.lookup f25 = some ⟨oc25, od25, .func (PySem.W.fnOf "_law_name" "_law_name" (defArgs s_law_name) (defBody s_law_name) (defScope s_law_name) .none kV25 dc25 pm25 an25 cd25 ct25), sl25⟩) (c25 : PySem.W.codeIn K cd25 "_law_name" = true) (k25 : PySem.W.keepIn K (.ref f25) = true)
    (a26 : PySem.W.nsIn K mainGlobals "_law_row_of" = some (some (.ref f26))) (l26 : K.lookup f26 = some ⟨oc26, od26, .func (PySem.W.fnOf "_law_row_of" "_law_row_of" (defArgs s_law_row_of) (defBody s_law_row_of) (defScope s_law_row_of) .none kV26 dc26 pm26 an26 cd26 ct26), sl26⟩) (c26 : PySem.W.codeIn K cd26 "_law_row_of" = true) (k26 : PySem.W.keepIn K (.ref f26) = true)
    (a27 : PySem.W.nsIn K mainGlobals "_law_kind_in" = some (some (.ref f27))) (l27 : K.lookup f27 = some ⟨oc27, od27, .func (PySem.W.fnOf "_law_kind_in" "_law_kind_in" (defArgs s_law_kind_in) (defBody s_law_kind_in) (defScope s_law_kind_in) .none kV27 dc27 pm27 an27 cd27 ct27), sl27⟩) (c27 : PySem.W.codeIn K cd27 "_law_kind_in" = true) (k27 : PySem.W.keepIn K (.ref f27) = true)
    (a28 : PySem.W.nsIn K mainGlobals "_law_rising" = some (some (.ref f28))) (l28 : K.lookup f28 = some ⟨oc28, od28, .func (PySem.W.fnOf "_law_rising" "_law_rising" (defArgs s_law_rising) (defBody s_law_rising) (defScope s_law_rising) .none kV28 dc28 pm28 an28 cd28 ct28), sl28⟩) (c28 : PySem.W.codeIn K cd28 "_law_rising" = true) (k28 : PySem.W.keepIn K (.ref f28) = true)
    (a29 : PySem.W.nsIn K mainGlobals "_law_source_word" = some (some (.ref f29))) (l29 : K.lookup f29 = some ⟨oc29, od29, .func (PySem.W.fnOf "_law_source_word" "_law_source_word" (defArgs s_law_source_word) (defBody s_law_source_word) (defScope s_law_source_word) .none kV29 dc29 pm29 an29 cd29 ct29), sl29⟩) (c29 : PySem.W.codeIn K cd29 "_law_source_word" = true) (k29 : PySem.W.keepIn K (.ref f29) = true)
    (a30 : PySem.W.nsIn K mainGlobals "_law_part_word" = some (some (.ref f30))) (l30 : K.lookup f30 = some ⟨oc30, od30, .func (PySem.W.fnOf "_law_part_word" "_law_part_word" (defArgs s_law_part_word) (defBody s_law_part_word) (defScope s_law_part_word) .none kV30 dc30 pm30 an30 cd30 ct30), sl30⟩) (c30 : PySem.W.codeIn K cd30 "_law_part_word" = true) (k30 : PySem.W.keepIn K (.ref f30) = true)
    (a31 : PySem.W.nsIn K mainGlobals "_law_way_word" = some (some (.ref f31))) (l31 : K.lookup f31 = some ⟨oc31, od31, .func (PySem.W.fnOf "_law_way_word" "_law_way_word" (defArgs s_law_way_word) (defBody s_law_way_word) (defScope s_law_way_word) .none kV31 dc31 pm31 an31 cd31 ct31), sl31⟩) (c31 : PySem.W.codeIn K cd31 "_law_way_word" = true) (k31 : PySem.W.keepIn K (.ref f31) = true)
    (a32 : PySem.W.nsIn K mainGlobals "_law_world_word" = some (some (.ref f32))) (l32 : K.lookup f32 = some ⟨oc32, od32, .func (PySem.W.fnOf "_law_world_word" "_law_world_word" (defArgs s_law_world_word) (defBody s_law_world_word) (defScope s_law_world_word) .none kV32 dc32 pm32 an32 cd32 ct32), sl32⟩) (c32 : PySem.W.codeIn K cd32 "_law_world_word" = true) (k32 : PySem.W.keepIn K (.ref f32) = true)
    (a33 : PySem.W.nsIn K mainGlobals "_law_odd" = some (some (.ref f33))) (l33 : K.lookup f33 = some ⟨oc33, od33, .func (PySem.W.fnOf "_law_odd" "_law_odd" (defArgs s_law_odd) (defBody s_law_odd) (defScope s_law_odd) .none kV33 dc33 pm33 an33 cd33 ct33), sl33⟩) (c33 : PySem.W.codeIn K cd33 "_law_odd" = true) (k33 : PySem.W.keepIn K (.ref f33) = true)
    (a34 : PySem.W.nsIn K mainGlobals "_law_spoilt" = some (some (.ref f34))) (l34 : K.lookup f34 = some ⟨oc34, od34, .func (PySem.W.fnOf "_law_spoilt" "_law_spoilt" (defArgs s_law_spoilt) (defBody s_law_spoilt) (defScope s_law_spoilt) .none kV34 dc34 pm34 an34 cd34 ct34), sl34⟩) (c34 : PySem.W.codeIn K cd34 "_law_spoilt" = true) (k34 : PySem.W.keepIn K (.ref f34) = true)
    (a35 : PySem.W.nsIn K mainGlobals "law" = some (some (.ref f35))) (l35 : K.lookup f35 = some ⟨oc35, od35, .func (PySem.W.fnOf "law" "law" (defArgs s_law) (defBody s_law) (defScope s_law) .none kV35 dc35 pm35 an35 cd35 ct35), sl35⟩) (c35 : PySem.W.codeIn K cd35 "law" = true) (k35 : PySem.W.keepIn K (.ref f35) = true)
    (z_isinstance : PySem.W.nsIn K mainGlobals "isinstance" = some none)
    (z_int : PySem.W.nsIn K mainGlobals "int" = some none)
    (z_bool : PySem.W.nsIn K mainGlobals "bool" = some none)
    (z_str : PySem.W.nsIn K mainGlobals "str" = some none)
    (z_len : PySem.W.nsIn K mainGlobals "len" = some none)
    (z_all : PySem.W.nsIn K mainGlobals "all" = some none)
    (z_tuple : PySem.W.nsIn K mainGlobals "tuple" = some none)
    (z_zip : PySem.W.nsIn K mainGlobals "zip" = some none)
    (z_enumerate : PySem.W.nsIn K mainGlobals "enumerate" = some none)
    (z_list : PySem.W.nsIn K mainGlobals "list" = some none)
    (z_range : PySem.W.nsIn K mainGlobals "range" = some none)
    (z_sorted : PySem.W.nsIn K mainGlobals "sorted" = some none)
    (z_min : PySem.W.nsIn K mainGlobals "min" = some none)
    (z_repr : PySem.W.nsIn K mainGlobals "repr" = some none)
    {t_ROUND : Tok} (y_ROUND : PySem.W.nsIn K mainGlobals "ROUND" = some (some (.int 6 t_ROUND)))
    {t_KINDS : Tok} (y_KINDS : PySem.W.nsIn K mainGlobals "KINDS" = some (some (.int 4 t_KINDS)))
    {t_SOURCES : Tok} (y_SOURCES : PySem.W.nsIn K mainGlobals "SOURCES" = some (some (.int 6 t_SOURCES)))
    {t_OLD : Tok} (y_OLD : PySem.W.nsIn K mainGlobals "OLD" = some (some (.int 20 t_OLD)))
    {t_SINCE : Tok} (y_SINCE : PySem.W.nsIn K mainGlobals "SINCE" = some (some (.int 1000000 t_SINCE)))
    {t_MANY : Tok} (y_MANY : PySem.W.nsIn K mainGlobals "MANY" = some (some (.int 9 t_MANY)))
    {t_WAYS : Tok} (y_WAYS : PySem.W.nsIn K mainGlobals "WAYS" = some (some (.int 8 t_WAYS)))
    {t_PARTS : Tok} (y_PARTS : PySem.W.nsIn K mainGlobals "PARTS" = some (some (.int 3 t_PARTS)))
    {t_WAIT : Tok} (y_WAIT : PySem.W.nsIn K mainGlobals "WAIT" = some (some (.int 6 t_WAIT)))
    {t_NAME_LENGTH : Tok} (y_NAME_LENGTH : PySem.W.nsIn K mainGlobals "NAME_LENGTH" = some (some (.int 8 t_NAME_LENGTH)))
    {t_LETTERS : Tok} (y_LETTERS : PySem.W.nsIn K mainGlobals "LETTERS" = some (some (.str (Str.ofString "abcdefghijklmnopqrstuvwxyz") t_LETTERS)))
    : ∃ fd : FuncData, (∀ (s : Shared) (v : Value), BindsTo s fd ⟨[v], []⟩ [("_law_script", v)]) ∧ ∀ base : Heap, K.In base → base.Ns mainGlobals mg → (∃ o, base.get? sysModules = some o) → FnG l.prog w K mg base 16 fa fd ["_law_script"] (spLaw K) := by
  have e := hfa.symm.trans (PySem.W.mg_of X G a35)
  cases e
  have F0 := fun_mk (st := s_is_number) l0 c0 k0
  have b0 := F0.binds (ps := ["thing"]) fun _ _ _ _ _ _ us hl => match us, hl with | [_], _ => rfl
  have g0 := PySem.W.mg_of X G a0
  have F1 := fun_mk (st := s_is_number_from) l1 c1 k1
  have b1 := F1.binds (ps := ["thing", "low", "high"]) fun _ _ _ _ _ _ us hl => match us, hl with | [_, _, _], _ => rfl
  have g1 := PySem.W.mg_of X G a1
  have F2 := fun_mk (st := s_is_name) l2 c2 k2
  have b2 := F2.binds (ps := ["thing"]) fun _ _ _ _ _ _ us hl => match us, hl with | [_], _ => rfl
  have g2 := PySem.W.mg_of X G a2
  have F3 := fun_mk (st := s_is_row) l3 c3 k3
  have b3 := F3.binds (ps := ["thing", "fewest", "most"]) fun _ _ _ _ _ _ us hl => match us, hl with | [_, _, _], _ => rfl
  have g3 := PySem.W.mg_of X G a3
  have F4 := fun_mk (st := s_is_rising) l4 c4 k4
  have b4 := F4.binds (ps := ["row"]) fun _ _ _ _ _ _ us hl => match us, hl with | [_], _ => rfl
  have g4 := PySem.W.mg_of X G a4
  have F5 := fun_mk (st := s_part_fault) l5 c5 k5
  have b5 := F5.binds (ps := ["kinds", "part"]) fun _ _ _ _ _ _ us hl => match us, hl with | [_, _], _ => rfl
  have g5 := PySem.W.mg_of X G a5
  have F6 := fun_mk (st := s_fault_below) l6 c6 k6
  have b6 := F6.binds (ps := ["path", "fault"]) fun _ _ _ _ _ _ us hl => match us, hl with | [_, _], _ => rfl
  have g6 := PySem.W.mg_of X G a6
  have F7 := fun_mk (st := s_parts_fault) l7 c7 k7
  have b7 := F7.binds (ps := ["kinds", "parts"]) fun _ _ _ _ _ _ us hl => match us, hl with | [_, _], _ => rfl
  have g7 := PySem.W.mg_of X G a7
  have F8 := fun_mk (st := s_is_hours) l8 c8 k8
  have b8 := F8.binds (ps := ["span", "hours"]) fun _ _ _ _ _ _ us hl => match us, hl with | [_, _], _ => rfl
  have g8 := PySem.W.mg_of X G a8
  have F9 := fun_mk (st := s_source_fault) l9 c9 k9
  have b9 := F9.binds (ps := ["span", "kinds", "source"]) fun _ _ _ _ _ _ us hl => match us, hl with | [_, _, _], _ => rfl
  have g9 := PySem.W.mg_of X G a9
  have F10 := fun_mk (st := s_way_fault) l10 c10 k10
  have b10 := F10.binds (ps := ["span", "kinds", "way"]) fun _ _ _ _ _ _ us hl => match us, hl with | [_, _, _], _ => rfl
  have g10 := PySem.W.mg_of X G a10
  have F11 := fun_mk (st := s_kinds_fault) l11 c11 k11
  have b11 := F11.binds (ps := ["kinds"]) fun _ _ _ _ _ _ us hl => match us, hl with | [_], _ => rfl
  have g11 := PySem.W.mg_of X G a11
  have F12 := fun_mk (st := s_sources_fault) l12 c12 k12
  have b12 := F12.binds (ps := ["span", "kinds", "sources"]) fun _ _ _ _ _ _ us hl => match us, hl with | [_, _, _], _ => rfl
  have g12 := PySem.W.mg_of X G a12
  have F13 := fun_mk (st := s_ways_fault) l13 c13 k13
  have b13 := F13.binds (ps := ["span", "kinds", "ways"]) fun _ _ _ _ _ _ us hl => match us, hl with | [_, _, _], _ => rfl
  have g13 := PySem.W.mg_of X G a13
  have F14 := fun_mk (st := s_worldfault) l14 c14 k14
  have b14 := F14.binds (ps := ["thing"]) fun _ _ _ _ _ _ us hl => match us, hl with | [_], _ => rfl
  have g14 := PySem.W.mg_of X G a14
  have F15 := fun_mk (st := s_law_draws) l15 c15 k15
  have b15 := F15.binds (ps := ["_law_script"]) fun _ _ _ _ _ _ us hl => match us, hl with | [_], _ => rfl
  have g15 := PySem.W.mg_of X G a15
  have F16 := fun_mk (st := s_law_next) l16 c16 k16
  have b16 := F16.binds (ps := ["_law_drawn", "_law_below"]) fun _ _ _ _ _ _ us hl => match us, hl with | [_, _], _ => rfl
  have g16 := PySem.W.mg_of X G a16
  have F17 := fun_mk (st := s_law_one) l17 c17 k17
  have b17 := F17.binds (ps := ["_law_drawn", "_law_wares"]) fun _ _ _ _ _ _ us hl => match us, hl with | [_, _], _ => rfl
  have g17 := PySem.W.mg_of X G a17
  have F18 := fun_mk (st := s_law_alike) l18 c18 k18
  have b18 := F18.binds (ps := ["_law_one_here", "_law_other"]) fun _ _ _ _ _ _ us hl => match us, hl with | [_, _], _ => rfl
  have g18 := PySem.W.mg_of X G a18
  have F19 := fun_mk (st := s_law_kinds) l19 c19 k19
  have b19 := F19.binds (ps := ["_law_drawn", "_law_many"]) fun _ _ _ _ _ _ us hl => match us, hl with | [_, _], _ => rfl
  have g19 := PySem.W.mg_of X G a19
  have F20 := fun_mk (st := s_law_source) l20 c20 k20
  have b20 := F20.binds (ps := ["_law_drawn", "_law_size", "_law_kinds_here", "_law_old"]) fun _ _ _ _ _ _ us hl => match us, hl with | [_, _, _, _], _ => rfl
  have g20 := PySem.W.mg_of X G a20
  have F21 := fun_mk (st := s_law_part) l21 c21 k21
  have b21 := F21.binds (ps := ["_law_drawn", "_law_kinds_here", "_law_old"]) fun _ _ _ _ _ _ us hl => match us, hl with | [_, _, _], _ => rfl
  have g21 := PySem.W.mg_of X G a21
  have F22 := fun_mk (st := s_law_way) l22 c22 k22
  have b22 := F22.binds (ps := ["_law_drawn", "_law_size", "_law_kinds_here", "_law_old"]) fun _ _ _ _ _ _ us hl => match us, hl with | [_, _, _, _], _ => rfl
  have g22 := PySem.W.mg_of X G a22
  have F23 := fun_mk (st := s_law_world) l23 c23 k23
  have b23 := F23.binds (ps := ["_law_drawn", "_law_wide", "_law_old"]) fun _ _ _ _ _ _ us hl => match us, hl with | [_, _, _], _ => rfl
  have g23 := PySem.W.mg_of X G a23
  have F24 := fun_mk (st := s_law_is) l24 c24 k24
  have b24 := F24.binds (ps := ["_law_thing", "_law_low", "_law_high"]) fun _ _ _ _ _ _ us hl => match us, hl with | [_, _, _], _ => rfl
  have g24 := PySem.W.mg_of X G a24
  have F25 := fun_mk (st := s_law_name) l25 c25 k25
  have b25 := F25.binds (ps := ["_law_thing"]) fun _ _ _ _ _ _ us hl => match us, hl with | [_], _ => rfl
  have g25 := PySem.W.mg_of X G a25
  have F26 := fun_mk (st := s_law_row_of) l26 c26 k26
  have b26 := F26.binds (ps := ["_law_thing", "_law_few", "_law_many"]) fun _ _ _ _ _ _ us hl => match us, hl with | [_, _, _], _ => rfl
  have g26 := PySem.W.mg_of X G a26
  have F27 := fun_mk (st := s_law_kind_in) l27 c27 k27
  have b27 := F27.binds (ps := ["_law_kinds_here", "_law_thing"]) fun _ _ _ _ _ _ us hl => match us, hl with | [_, _], _ => rfl
  have g27 := PySem.W.mg_of X G a27
  have F28 := fun_mk (st := s_law_rising) l28 c28 k28
  have b28 := F28.binds (ps := ["_law_thing", "_law_many"]) fun _ _ _ _ _ _ us hl => match us, hl with | [_, _], _ => rfl
  have g28 := PySem.W.mg_of X G a28
  have F29 := fun_mk (st := s_law_source_word) l29 c29 k29
  have b29 := F29.binds (ps := ["_law_size", "_law_kinds_here", "_law_source_here"]) fun _ _ _ _ _ _ us hl => match us, hl with | [_, _, _], _ => rfl
  have g29 := PySem.W.mg_of X G a29
  have F30 := fun_mk (st := s_law_part_word) l30 c30 k30
  have b30 := F30.binds (ps := ["_law_kinds_here", "_law_part_here"]) fun _ _ _ _ _ _ us hl => match us, hl with | [_, _], _ => rfl
  have g30 := PySem.W.mg_of X G a30
  have F31 := fun_mk (st := s_law_way_word) l31 c31 k31
  have b31 := F31.binds (ps := ["_law_size", "_law_kinds_here", "_law_way_here"]) fun _ _ _ _ _ _ us hl => match us, hl with | [_, _, _], _ => rfl
  have g31 := PySem.W.mg_of X G a31
  have F32 := fun_mk (st := s_law_world_word) l32 c32 k32
  have b32 := F32.binds (ps := ["_law_thing"]) fun _ _ _ _ _ _ us hl => match us, hl with | [_], _ => rfl
  have g32 := PySem.W.mg_of X G a32
  have F33 := fun_mk (st := s_law_odd) l33 c33 k33
  have b33 := F33.binds (ps := ["_law_drawn"]) fun _ _ _ _ _ _ us hl => match us, hl with | [_], _ => rfl
  have g33 := PySem.W.mg_of X G a33
  have F34 := fun_mk (st := s_law_spoilt) l34 c34 k34
  have b34 := F34.binds (ps := ["_law_drawn", "_law_thing"]) fun _ _ _ _ _ _ us hl => match us, hl with | [_, _], _ => rfl
  have g34 := PySem.W.mg_of X G a34
  have F35 := fun_mk (st := s_law) l35 c35 k35
  have b35 := F35.binds (ps := ["_law_script"]) fun _ _ _ _ _ _ us hl => match us, hl with | [_], _ => rfl
  have g35 := PySem.W.mg_of X G a35
  have m_isinstance := PySem.W.mg_none_of X G z_isinstance
  have m_int := PySem.W.mg_none_of X G z_int
  have m_bool := PySem.W.mg_none_of X G z_bool
  have m_str := PySem.W.mg_none_of X G z_str
  have m_len := PySem.W.mg_none_of X G z_len
  have m_all := PySem.W.mg_none_of X G z_all
  have m_tuple := PySem.W.mg_none_of X G z_tuple
  have m_zip := PySem.W.mg_none_of X G z_zip
  have m_enumerate := PySem.W.mg_none_of X G z_enumerate
  have m_list := PySem.W.mg_none_of X G z_list
  have m_range := PySem.W.mg_none_of X G z_range
  have m_sorted := PySem.W.mg_none_of X G z_sorted
  have m_min := PySem.W.mg_none_of X G z_min
  have m_repr := PySem.W.mg_none_of X G z_repr
  have g_ROUND := PySem.W.mg_of X G y_ROUND
  have g_KINDS := PySem.W.mg_of X G y_KINDS
  have g_SOURCES := PySem.W.mg_of X G y_SOURCES
  have g_OLD := PySem.W.mg_of X G y_OLD
  have g_SINCE := PySem.W.mg_of X G y_SINCE
  have g_MANY := PySem.W.mg_of X G y_MANY
  have g_WAYS := PySem.W.mg_of X G y_WAYS
  have g_PARTS := PySem.W.mg_of X G y_PARTS
  have g_WAIT := PySem.W.mg_of X G y_WAIT
  have g_NAME_LENGTH := PySem.W.mg_of X G y_NAME_LENGTH
  have g_LETTERS := PySem.W.mg_of X G y_LETTERS
  refine ⟨PySem.W.fnOf "law" "law" (defArgs s_law) (defBody s_law) (defScope s_law) .none kV35 dc35 pm35 an35 cd35 ct35, fun s v => .of_eq rfl, fun base _ _ hB => ?_⟩
  have C0 : Cl l.prog w K mg base 1 "is_number" ["thing"] (spD 1 sNum) := ⟨f0, _, ok_num F0 m_isinstance m_int m_bool, g0, F0.kp, b0⟩
  have C1 : Cl l.prog w K mg base 2 "is_number_from" ["thing", "low", "high"] (spD 3 sFrom) := ⟨f1, _, ok_from F1 C0, g1, F1.kp, b1⟩
  have C2 : Cl l.prog w K mg base 1 "is_name" ["thing"] (spD 1 sName) := ⟨f2, _, ok_name F2 m_isinstance m_str m_len m_all g_LETTERS g_NAME_LENGTH, g2, F2.kp, b2⟩
  have C3 : Cl l.prog w K mg base 1 "is_row" ["thing", "fewest", "most"] (spD 3 sRow) := ⟨f3, _, ok_row F3 m_isinstance m_tuple m_len, g3, F3.kp, b3⟩
  have C4 : Cl l.prog w K mg base 1 "is_rising" ["row"] (spD 1 sRis) := ⟨f4, _, ok_ris F4 m_all m_zip, g4, F4.kp, b4⟩
  have C5 : Cl l.prog w K mg base 3 "part_fault" ["kinds", "part"] (spD 2 sPartF) := ⟨f5, _, ok_partF F5 g_OLD C3 C1, g5, F5.kp, b5⟩
  have C6 : Cl l.prog w K mg base 1 "fault_below" ["path", "fault"] (spD 2 sBelow) := ⟨f6, _, ok_below F6, g6, F6.kp, b6⟩
  have C7 : Cl l.prog w K mg base 4 "parts_fault" ["kinds", "parts"] (spD 2 sPartsF) := ⟨f7, _, ok_partsF F7 g_PARTS m_enumerate C3 C5 C6, g7, F7.kp, b7⟩
  have C8 : Cl l.prog w K mg base 3 "is_hours" ["span", "hours"] (spD 2 sHours) := ⟨f8, _, ok_hours F8 m_all C3 C1 C4, g8, F8.kp, b8⟩
  have C9 : Cl l.prog w K mg base 3 "source_fault" ["span", "kinds", "source"] (spD 3 sSrc) := ⟨f9, _, ok_src F9 g_OLD g_SINCE g_MANY C3 C1, g9, F9.kp, b9⟩
  have C10 : Cl l.prog w K mg base 5 "way_fault" ["span", "kinds", "way"] (spD 3 sWay) := ⟨f10, _, ok_wayF F10 g_WAIT C3 C1 C7 C6 C8, g10, F10.kp, b10⟩
  have C11 : Cl l.prog w K mg base 2 "kinds_fault" ["kinds"] (spD 1 sKindsF) := ⟨f11, _, ok_kindsF F11 m_enumerate g_KINDS C3 C2, g11, F11.kp, b11⟩
  have C12 : Cl l.prog w K mg base 4 "sources_fault" ["span", "kinds", "sources"] (spD 3 sSrcs) := ⟨f12, _, ok_srcs F12 g_SOURCES m_enumerate C3 C9 C6, g12, F12.kp, b12⟩
  have C13 : Cl l.prog w K mg base 6 "ways_fault" ["span", "kinds", "ways"] (spD 3 sWays) := ⟨f13, _, ok_ways F13 g_WAYS m_enumerate C3 C10 C6, g13, F13.kp, b13⟩
  have C14 : Cl l.prog w K mg base 7 "worldfault" ["thing"] (spD 1 sWorldF) := ⟨f14, _, ok_worldF F14 g_ROUND C3 C1 C11 C12 C13, g14, F14.kp, b14⟩
  have C15 : Cl l.prog w K mg base 1 "_law_draws" ["_law_script"] (spDraws K) := ⟨f15, _, ok_draws F15 m_len m_list m_int, g15, F15.kp, b15⟩
  have C16 : Cl l.prog w K mg base 1 "_law_next" ["_law_drawn", "_law_below"] (spN 1 gNext) := ⟨f16, _, ok_nextN (ok_next (k := 0) F16 m_len), g16, F16.kp, b16⟩
  have CF_next : Cl l.prog w K mg base 1 "_law_next" ["_law_drawn", "_law_below"] spNext := ⟨f16, _, ok_next (k := 0) F16 m_len, g16, F16.kp, b16⟩
  have C17 : Cl l.prog w K mg base 2 "_law_one" ["_law_drawn", "_law_wares"] (spN 1 gOne) := ⟨f17, _, ok_oneN F17 m_len C16, g17, F17.kp, b17⟩
  have CF_one : Cl l.prog w K mg base 2 "_law_one" ["_law_drawn", "_law_wares"] (spOne K) := ⟨f17, _, ok_one F17 m_len CF_next, g17, F17.kp, b17⟩
  have C18 : Cl l.prog w K mg base 3 "_law_alike" ["_law_one_here", "_law_other"] (spD 2 (sAl (dpA 3))) := ⟨f18, _, ok_alike F18 b18 g18 m_isinstance m_tuple m_bool m_int m_str m_len m_all m_zip, g18, F18.kp, b18⟩
  have C19 : Cl l.prog w K mg base 3 "_law_kinds" ["_law_drawn", "_law_many"] (spN 1 gKinds) := ⟨f19, _, ok_kinds (ok_kindsF' F19 m_range m_sorted m_tuple CF_next CF_one), g19, F19.kp, b19⟩
  have C20 : Cl l.prog w K mg base 3 "_law_source" ["_law_drawn", "_law_size", "_law_kinds_here", "_law_old"] (spN 3 gSource) := ⟨f20, _, ok_source F20 C16 C17, g20, F20.kp, b20⟩
  have C21 : Cl l.prog w K mg base 3 "_law_part" ["_law_drawn", "_law_kinds_here", "_law_old"] (spN 2 gPart) := ⟨f21, _, ok_part F21 m_min C16 C17, g21, F21.kp, b21⟩
  have C22 : Cl l.prog w K mg base 4 "_law_way" ["_law_drawn", "_law_size", "_law_kinds_here", "_law_old"] (spN 3 gWay) := ⟨f22, _, ok_way F22 m_range m_tuple C16 C17 C21, g22, F22.kp, b22⟩
  have C23 : Cl l.prog w K mg base 5 "_law_world" ["_law_drawn", "_law_wide", "_law_old"] (spN 2 gWorld) := ⟨f23, _, ok_world F23 m_range m_tuple C16 C19 C20 C22, g23, F23.kp, b23⟩
  have C24 : Cl l.prog w K mg base 1 "_law_is" ["_law_thing", "_law_low", "_law_high"] (spD 3 sFrom) := ⟨f24, _, ok_is F24 m_isinstance m_int m_bool, g24, F24.kp, b24⟩
  have C25 : Cl l.prog w K mg base 1 "_law_name" ["_law_thing"] (spD 1 sNameX) := ⟨f25, _, ok_nameW F25 m_isinstance m_str m_len, g25, F25.kp, b25⟩
  have C26 : Cl l.prog w K mg base 1 "_law_row_of" ["_law_thing", "_law_few", "_law_many"] (spD 3 sRow) := ⟨f26, _, ok_rowW F26 m_isinstance m_tuple m_len, g26, F26.kp, b26⟩
  have C27 : Cl l.prog w K mg base 1 "_law_kind_in" ["_law_kinds_here", "_law_thing"] (spD 2 sKindIn) := ⟨f27, _, ok_kindW F27 m_isinstance m_str, g27, F27.kp, b27⟩
  have C28 : Cl l.prog w K mg base 2 "_law_rising" ["_law_thing", "_law_many"] (spD 2 sRisX) := ⟨f28, _, ok_risW F28 m_isinstance m_tuple m_range m_len C24, g28, F28.kp, b28⟩
  have C29 : Cl l.prog w K mg base 2 "_law_source_word" ["_law_size", "_law_kinds_here", "_law_source_here"] (spD 3 sSrcX) := ⟨f29, _, ok_srcW F29 m_range C26 C24 C27, g29, F29.kp, b29⟩
  have C30 : Cl l.prog w K mg base 2 "_law_part_word" ["_law_kinds_here", "_law_part_here"] (spD 2 sPartX) := ⟨f30, _, ok_partW F30 m_int C26 C24 C27, g30, F30.kp, b30⟩
  have C31 : Cl l.prog w K mg base 3 "_law_way_word" ["_law_size", "_law_kinds_here", "_law_way_here"] (spD 3 sWayX) := ⟨f31, _, ok_wayW F31 m_range m_len m_isinstance m_str m_int C26 C24 C27 C30 C28, g31, F31.kp, b31⟩
  have C32 : Cl l.prog w K mg base 4 "_law_world_word" ["_law_thing"] (spD 1 sWorldX) := ⟨f32, _, ok_worldW F32 m_range m_len C26 C24 C25 C29 C31, g32, F32.kp, b32⟩
  have C33 : Cl l.prog w K mg base 3 "_law_odd" ["_law_drawn"] (spN 0 gOdd) := ⟨f33, _, ok_odd F33 C17, g33, F33.kp, b33⟩
  have C34 : Cl l.prog w K mg base 15 "_law_spoilt" ["_law_drawn", "_law_thing"] (spN 1 (gSp 12)) := ⟨f34, _, ok_spoilt F34 b34 g34 m_isinstance m_tuple m_len m_list m_str m_int C16 C17 C33, g34, F34.kp, b34⟩
  exact ok_law F35 hB m_range m_list m_repr C15 C23 C34 C18 C14 C32
end Dl
open PySem PySem.W PyProof.Rows
set_option maxHeartbeats 0 in
theorem PySem.Challenge.cw_rightage_k00_worlds_judged_holds : PySem.Challenge.rw_rightage_k00_worlds_judged.Holds := by
  w_on; o_law; k_head; (case hw => w_witness2)
  k_fill
  refine Dl.walk_G2 (l := PySem.Challenge.rw_rightage_k00_worlds_judged) (n := 63) (k := 16) (x := "_law_script") (sp := fun w => Dl.spLaw _) (by decide +kernel) rfl (by decide) rfl ⟨rfl, by decide, by decide⟩ (fun w h Y => PySem.W.kIn_of Y) ?F (fun _ _ a ns hl _ hS => ⟨a, ns, rfl, hS, hl, fun _ => rfl⟩)
  case F =>
    intro w mg fa h KX G hmg
    refine' Dl.all_mk KX G hmg ?a0 ?l0 ?c0 ?k0 ?a1 ?l1 ?c1 ?k1 ?a2 ?l2 ?c2 ?k2 ?a3 ?l3 ?c3 ?k3 ?a4 ?l4 ?c4 ?k4 ?a5 ?l5 ?c5 ?k5 ?a6 ?l6 ?c6 ?k6 ?a7 ?l7 ?c7 ?k7 ?a8 ?l8 ?c8 ?k8 ?a9 ?l9 ?c9 ?k9 ?a10 ?l10 ?c10 ?k10 ?a11 ?l11 ?c11 ?k11 ?a12 ?l12 ?c12 ?k12 ?a13 ?l13 ?c13 ?k13 ?a14 ?l14 ?c14 ?k14 ?a15 ?l15 ?c15 ?k15 ?a16 ?l16 ?c16 ?k16 ?a17 ?l17 ?c17 ?k17 ?a18 ?l18 ?c18 ?k18 ?a19 ?l19 ?c19 ?k19 ?a20 ?l20 ?c20 ?k20 ?a21 ?l21 ?c21 ?k21 ?a22 ?l22 ?c22 ?k22 ?a23 ?l23 ?c23 ?k23 ?a24 ?l24 ?c24 ?k24 ?a25 ?l25 ?c25 ?k25 ?a26 ?l26 ?c26 ?k26 ?a27 ?l27 ?c27 ?k27 ?a28 ?l28 ?c28 ?k28 ?a29 ?l29 ?c29 ?k29 ?a30 ?l30 ?c30 ?k30 ?a31 ?l31 ?c31 ?k31 ?a32 ?l32 ?c32 ?k32 ?a33 ?l33 ?c33 ?k33 ?a34 ?l34 ?c34 ?k34 ?a35 ?l35 ?c35 ?k35 ?z_isinstance ?z_int ?z_bool ?z_str ?z_len ?z_all ?z_tuple ?z_zip ?z_enumerate ?z_list ?z_range ?z_sorted ?z_min ?z_repr ?y_ROUND ?y_KINDS ?y_SOURCES ?y_OLD ?y_SINCE ?y_MANY ?y_WAYS ?y_PARTS ?y_WAIT ?y_NAME_LENGTH ?y_LETTERS
    (case a0 => k_is)
    (case l0 => k_is)
    (case c0 => k_is)
    (case k0 => k_is)
    (case a1 => k_is)
    (case l1 => k_is)
    (case c1 => k_is)
    (case k1 => k_is)
    (case a2 => k_is)
    (case l2 => k_is)
    (case c2 => k_is)
    (case k2 => k_is)
    (case a3 => k_is)
    (case l3 => k_is)
    (case c3 => k_is)
    (case k3 => k_is)
    (case a4 => k_is)
    (case l4 => k_is)
    (case c4 => k_is)
    (case k4 => k_is)
    (case a5 => k_is)
    (case l5 => k_is)
    (case c5 => k_is)
    (case k5 => k_is)
    (case a6 => k_is)
    (case l6 => k_is)
    (case c6 => k_is)
    (case k6 => k_is)
    (case a7 => k_is)
    (case l7 => k_is)
    (case c7 => k_is)
    (case k7 => k_is)
    (case a8 => k_is)
    (case l8 => k_is)
    (case c8 => k_is)
    (case k8 => k_is)
    (case a9 => k_is)
    (case l9 => k_is)
    (case c9 => k_is)
    (case k9 => k_is)
    (case a10 => k_is)
    (case l10 => k_is)
    (case c10 => k_is)
    (case k10 => k_is)
    (case a11 => k_is)
    (case l11 => k_is)
    (case c11 => k_is)
    (case k11 => k_is)
    (case a12 => k_is)
    (case l12 => k_is)
    (case c12 => k_is)
    (case k12 => k_is)
    (case a13 => k_is)
    (case l13 => k_is)
    (case c13 => k_is)
    (case k13 => k_is)
    (case a14 => k_is)
    (case l14 => k_is)
    (case c14 => k_is)
    (case k14 => k_is)
    (case a15 => k_is)
    (case l15 => k_is)
    (case c15 => k_is)
    (case k15 => k_is)
    (case a16 => k_is)
    (case l16 => k_is)
    (case c16 => k_is)
    (case k16 => k_is)
    (case a17 => k_is)
    (case l17 => k_is)
    (case c17 => k_is)
    (case k17 => k_is)
    (case a18 => k_is)
    (case l18 => k_is)
    (case c18 => k_is)
    (case k18 => k_is)
    (case a19 => k_is)
    (case l19 => k_is)
    (case c19 => k_is)
    (case k19 => k_is)
    (case a20 => k_is)
    (case l20 => k_is)
    (case c20 => k_is)
    (case k20 => k_is)
    (case a21 => k_is)
    (case l21 => k_is)
    (case c21 => k_is)
    (case k21 => k_is)
    (case a22 => k_is)
    (case l22 => k_is)
    (case c22 => k_is)
    (case k22 => k_is)
    (case a23 => k_is)
    (case l23 => k_is)
    (case c23 => k_is)
    (case k23 => k_is)
    (case a24 => k_is)
    (case l24 => k_is)
    (case c24 => k_is)
    (case k24 => k_is)
    (case a25 => k_is)
    (case l25 => k_is)
    (case c25 => k_is)
    (case k25 => k_is)
    (case a26 => k_is)
    (case l26 => k_is)
    (case c26 => k_is)
    (case k26 => k_is)
    (case a27 => k_is)
    (case l27 => k_is)
    (case c27 => k_is)
    (case k27 => k_is)
    (case a28 => k_is)
    (case l28 => k_is)
    (case c28 => k_is)
    (case k28 => k_is)
    (case a29 => k_is)
    (case l29 => k_is)
    (case c29 => k_is)
    (case k29 => k_is)
    (case a30 => k_is)
    (case l30 => k_is)
    (case c30 => k_is)
    (case k30 => k_is)
    (case a31 => k_is)
    (case l31 => k_is)
    (case c31 => k_is)
    (case k31 => k_is)
    (case a32 => k_is)
    (case l32 => k_is)
    (case c32 => k_is)
    (case k32 => k_is)
    (case a33 => k_is)
    (case l33 => k_is)
    (case c33 => k_is)
    (case k33 => k_is)
    (case a34 => k_is)
    (case l34 => k_is)
    (case c34 => k_is)
    (case k34 => k_is)
    (case a35 => k_is)
    (case l35 => k_is)
    (case c35 => k_is)
    (case k35 => k_is)
    (case z_isinstance => k_is)
    (case z_int => k_is)
    (case z_bool => k_is)
    (case z_str => k_is)
    (case z_len => k_is)
    (case z_all => k_is)
    (case z_tuple => k_is)
    (case z_zip => k_is)
    (case z_enumerate => k_is)
    (case z_list => k_is)
    (case z_range => k_is)
    (case z_sorted => k_is)
    (case z_min => k_is)
    (case z_repr => k_is)
    (case y_ROUND => k_is)
    (case y_KINDS => k_is)
    (case y_SOURCES => k_is)
    (case y_OLD => k_is)
    (case y_SINCE => k_is)
    (case y_MANY => k_is)
    (case y_WAYS => k_is)
    (case y_PARTS => k_is)
    (case y_WAIT => k_is)
    (case y_NAME_LENGTH => k_is)
    (case y_LETTERS => k_is)
